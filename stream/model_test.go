package stream_test

import (
	"cmp"
	"fmt"
	"math"
	"math/rand/v2"
	"slices"
	"strings"
	"testing"

	"headrace/api"
	"headrace/batch"
	"headrace/catalog"
	"headrace/files"
	"headrace/sorter"
	"headrace/stream"
	"headrace/whole"
)

const theOne = 0x7ff8000000000000 // the bits of what is no number

var longest = strings.Repeat("\xff", api.MaxKey)

// vals are values of all kinds.
var vals = []float64{
	0, math.Copysign(0, -1), 1, -1, 0.1, 1e300, -1e300, math.SmallestNonzeroFloat64, -math.MaxFloat64, math.MaxFloat64,
	math.Inf(1), math.Inf(-1), math.NaN(), math.Float64frombits(0xfff0000000000009),
}

func tumbling(size int64) api.Config {
	return api.Config{Kind: api.Tumbling, Size: size, Parts: 1}
}

func sliding(size, step int64) api.Config {
	return api.Config{Kind: api.Sliding, Size: size, Step: step, Parts: 1}
}

func session(size int64) api.Config {
	return api.Config{Kind: api.Session, Size: size, Parts: 1}
}

// with are a config's Late, Skew and Parts.
func with(c api.Config, late, skew int64, parts int) api.Config {
	c.Late, c.Skew, c.Parts = late, skew, parts
	return c
}

// configs are configs of each kind, of two partitions.
func configs() []api.Config {
	var l []api.Config
	for _, c := range []api.Config{
		tumbling(1), tumbling(10), tumbling(api.MaxSize),
		sliding(10, 4), sliding(10, 10), sliding(16, 1), sliding(api.MaxSize, api.MaxSize/api.MaxShare),
		session(1), session(5), session(api.MaxSize),
	} {
		for _, late := range []int64{-1, 0, 7, api.MaxSize} {
			l = append(l, with(c, late, 0, 2), with(c, late, 3, 2))
		}
	}
	return append(l, with(tumbling(10), math.MinInt64, api.MaxSize, api.MaxParts))
}

// anyConfig is a config of small sizes, of each kind.
func anyConfig(r *rand.Rand) api.Config {
	size := 1 + r.Int64N(16)
	c := []api.Config{tumbling(size), session(size)}[r.IntN(2)]
	if r.IntN(3) == 0 {
		fewest := (size + api.MaxShare - 1) / api.MaxShare
		c = sliding(size, fewest+r.Int64N(size-fewest+1))
	}
	return with(c, []int64{-1, 0, 1, r.Int64N(20)}[r.IntN(4)], []int64{0, 1, r.Int64N(20)}[r.IntN(3)], 1+r.IntN(3))
}

// someLog are a log's first n events, of few keys, whose times rise by and by, more or less.
func someLog(r *rand.Rand, n, parts int) []api.Event {
	keys := []string{"", "a", "ab", "b", "a\x00", longest}[r.IntN(5):]
	around, pace, within := r.Int64N(100)-80, r.Int64N(4), 1+r.Int64N(25)
	l := make([]api.Event, n)
	for i := range l {
		l[i] = api.Event{
			Offset: uint64(i),
			Part:   r.IntN(parts),
			Time:   around + int64(i)*pace + r.Int64N(within),
			Key:    keys[r.IntN(len(keys))],
			Val:    math.Ldexp(r.Float64()-0.5, r.IntN(200)-100),
		}
		if r.IntN(20) == 0 {
			l[i].Val = vals[r.IntN(len(vals))]
		}
	}
	return l
}

// someOrder is a list in another order, more or less, in which some are there twice.
func someOrder(r *rand.Rand, l []api.Event) []api.Event {
	l = slices.Clone(l)
	far := 1 + r.IntN(12)
	for i := range l {
		j := min(len(l)-1, i+r.IntN(far))
		l[i], l[j] = l[j], l[i]
	}
	for range len(l) / 8 {
		l = slices.Insert(l, r.IntN(len(l)), l[r.IntN(len(l))])
	}
	return l
}

// bootOf is what batch.Run answers of an archive of a log's events, below the config's cut.
func bootOf(t *testing.T, c api.Config, log []api.Event) batch.Boot {
	t.Helper()
	s, e := files.New(1 << 22)
	check(t, "files.New", e, api.OK)
	cat, e := catalog.Open(s, c.Parts)
	check(t, "catalog.Open", e, api.OK)
	for rows := range slices.Chunk(log, 100) {
		check(t, "Seal", cat.Seal(rows), api.OK)
	}
	b, e := batch.Run(s, cat, c, sorter.Plan{Hold: 16, Fan: 3})
	check(t, "batch.Run", e, api.OK)
	return b
}

func check(t *testing.T, what any, got, want api.Errno) {
	t.Helper()
	if got != want {
		t.Fatalf("%v: error %d, not %d", what, got, want)
	}
}

// place is a key's window.
type place struct {
	key string
	w   api.Window
}

// model is what an operator is to do, written apart from it: what is told of all events is worked out anew at each one that comes.
type model struct {
	c       api.Config
	archive []api.Event
	came    []api.Event
	counted []api.Event // the archive, and those that came and weren't late
	late    uint64
	ended   bool
	there   map[place]api.Agg
	backs   map[place]uint64 // how often it was taken back
	out     []api.Change
}

func newModel(c api.Config, archive []api.Event) *model {
	m := &model{c: c, archive: archive, counted: slices.Clone(archive), there: map[place]api.Agg{}, backs: map[place]uint64{}}
	m.tellDue()
	return m
}

// mark is found by looking at all events.
func (m *model) mark() (int64, bool) {
	low := int64(math.MaxInt64)
	for part := range m.c.Parts {
		greatest, seen := int64(math.MinInt64), false
		for _, e := range slices.Concat(m.archive, m.came) {
			if e.Part == part {
				greatest, seen = max(greatest, e.Time), true
			}
		}
		if !seen {
			return 0, false
		}
		low = min(low, greatest)
	}
	return low - m.c.Skew, true
}

// lastEnd is the end of the last window in which a time is.
func lastEnd(c api.Config, t int64) int64 {
	step := map[byte]int64{api.Tumbling: c.Size, api.Sliding: c.Step, api.Session: 1}[c.Kind]
	return t - ((t%step)+step)%step + c.Size
}

func (m *model) isLate(t int64) bool {
	mark, ok := m.mark()
	return ok && m.c.Late >= 0 && mark > lastEnd(m.c, t)+m.c.Late
}

// isDead looks at all times by which a window may have another value (of a long window at the last ones).
func (m *model) isDead(w api.Window) bool {
	first := w.Start
	if m.c.Kind == api.Session {
		first = w.Start - m.c.Size + 1
	}
	for t := max(first, w.End-300); t < w.End; t++ {
		if !m.isLate(t) {
			return false
		}
	}
	return true
}

// panes are those that there would be, were all told.
func (m *model) panes() map[place]api.Agg {
	panes := map[place]api.Agg{}
	for _, p := range whole.Panes(m.c, m.counted) {
		panes[place{p.Key, p.W}] = p.A
	}
	return panes
}

// byWindows are places by their windows' ends, starts, then by their keys.
func byWindows(panes map[place]api.Agg) []place {
	var l []place
	for p := range panes {
		l = append(l, p)
	}
	slices.SortFunc(l, func(a, b place) int {
		return cmp.Or(cmp.Compare(a.w.End, b.w.End), cmp.Compare(a.w.Start, b.w.Start), strings.Compare(a.key, b.key))
	})
	return l
}

func (m *model) tell(p place, a api.Agg) {
	m.there[p] = a
	m.out = append(m.out, api.Change{Put: true, Rev: m.backs[p], P: api.Pane{Key: p.key, W: p.w, A: a}})
}

func (m *model) takeBack(p place) {
	m.out = append(m.out, api.Change{Rev: m.backs[p], P: api.Pane{Key: p.key, W: p.w, A: m.there[p]}})
	delete(m.there, p)
	m.backs[p]++
}

// retell takes back what isn't so any more, and tells it again if its window still is.
func (m *model) retell() {
	now := m.panes()
	for _, p := range byWindows(m.there) {
		a, is := now[p]
		if is && alike(a, m.there[p]) {
			continue
		}
		m.takeBack(p)
		if is {
			m.tell(p, a)
		}
	}
}

func (m *model) isDue(w api.Window) bool {
	mark, ok := m.mark()
	return m.ended || ok && w.End <= mark
}

func (m *model) tellDue() {
	now := m.panes()
	for _, p := range byWindows(now) {
		if _, told := m.there[p]; !told && m.isDue(p.w) {
			m.tell(p, now[p])
		}
	}
}

func (m *model) seen(offset uint64) bool {
	return slices.ContainsFunc(m.came, func(e api.Event) bool { return e.Offset == offset })
}

func (m *model) in(e api.Event) api.Errno {
	switch {
	case m.ended:
		return api.ErrState
	case e.Part < 0 || e.Part >= m.c.Parts || e.Time < -(1<<40) || e.Time > 1<<40 || len(e.Key) > 32 || e.Offset >= 1<<40:
		return api.ErrForm
	case e.Offset < m.c.Cut:
		return api.ErrStale
	case m.seen(e.Offset):
		return api.ErrTwice
	}
	if m.isLate(e.Time) {
		m.late++
	} else {
		m.counted = append(m.counted, e)
		m.retell()
	}
	m.came = append(m.came, e)
	m.tellDue()
	return api.OK
}

func (m *model) end() api.Errno {
	if m.ended {
		return api.ErrState
	}
	m.ended = true
	m.tellDue()
	return api.OK
}

func (m *model) open() int {
	n := 0
	for p := range m.panes() {
		if _, told := m.there[p]; !told || !m.isDead(p.w) {
			n++
		}
	}
	return n
}

// bitsOf are a number's, and of all that is none the one's.
func bitsOf(x float64) uint64 {
	if x != x {
		return theOne
	}
	return math.Float64bits(x)
}

// alike: is it the same that is told, to the last bit?
func alike(a, b api.Agg) bool {
	return a.Count == b.Count && a.Over == b.Over &&
		bitsOf(a.Sum) == bitsOf(b.Sum) && bitsOf(a.Min) == bitsOf(b.Min) && bitsOf(a.Max) == bitsOf(b.Max)
}

func samePane(a, b api.Pane) bool {
	return a.Key == b.Key && a.W == b.W && alike(a.A, b.A)
}

func sameChanges(a, b []api.Change) bool {
	return slices.EqualFunc(a, b, func(a, b api.Change) bool {
		return a.Put == b.Put && a.Rev == b.Rev && samePane(a.P, b.P)
	})
}

// briefly tells changes: + or -, the revision, the key, the window, how many values, and their sum.
func briefly(l []api.Change) string {
	var texts []string
	for _, c := range l {
		sign := "-"
		if c.Put {
			sign = "+"
		}
		texts = append(texts, fmt.Sprintf("%s%d %s[%d %d) %d %v", sign, c.Rev, c.P.Key, c.P.W.Start, c.P.W.End, c.P.A.Count, c.P.A.Sum))
	}
	return strings.Join(texts, ", ")
}

// checkOut holds what is told since it was asked last against the model.
func checkOut(t *testing.T, what any, o *stream.Operator, m *model) {
	t.Helper()
	if l := o.Out(); !sameChanges(l, m.out) {
		t.Fatalf("%v: Out = %s\nnot %s", what, briefly(l), briefly(m.out))
	}
	m.out = nil
}

// checkState holds all else that an operator tells against the model.
func checkState(t *testing.T, what any, o *stream.Operator, m *model) {
	t.Helper()
	mark, ok := m.mark()
	if x, is := o.Mark(); x != mark || is != ok {
		t.Fatalf("%v: Mark = %d, %v; not %d, %v", what, x, is, mark, ok)
	}
	if o.Late() != m.late || o.Ended() != m.ended || o.Config() != m.c {
		t.Fatalf("%v: Late %d, Ended %v, Config %+v; not %d, %v, %+v", what, o.Late(), o.Ended(), o.Config(), m.late, m.ended, m.c)
	}
	if n := m.open(); o.Open() != n {
		t.Fatalf("%v: Open = %d, not %d", what, o.Open(), n)
	}
	for offset := range m.c.Cut + uint64(len(m.came)) + 3 {
		if o.Seen(offset) != m.seen(offset) {
			t.Fatalf("%v: Seen(%d) = %v", what, offset, o.Seen(offset))
		}
	}
}

// newBoth is an operator, behind an archive of some events, and its model.
func newBoth(t *testing.T, c api.Config, archive []api.Event) (*stream.Operator, *model) {
	t.Helper()
	c.Cut = uint64(len(archive))
	o, e := stream.New(c, bootOf(t, c, archive))
	check(t, "New", e, api.OK)
	m := newModel(c, archive)
	checkState(t, "New", o, m)
	return o, m
}

// loaded is an operator that was saved and loaded.
func loaded(t *testing.T, o *stream.Operator) *stream.Operator {
	t.Helper()
	p := o.Save()
	l, e := stream.Load(p)
	check(t, "Load", e, api.OK)
	if string(l.Save()) != string(p) {
		t.Fatalf("what is loaded is saved otherwise: %x, not %x", l.Save(), p)
	}
	return l
}
