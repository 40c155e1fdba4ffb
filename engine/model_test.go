package engine_test

import (
	"bytes"
	"fmt"
	"maps"
	"math"
	"math/rand/v2"
	"slices"
	"strings"
	"testing"

	"headrace/api"
	"headrace/batch"
	"headrace/catalog"
	"headrace/column"
	"headrace/engine"
	"headrace/files"
	"headrace/ledger"
	"headrace/mark"
	"headrace/page"
	"headrace/sorter"
	"headrace/stream"
	"headrace/whole"
)

const (
	bigRoom = 1 << 20
	most    = api.MaxFiles / 4
	theOne  = 0x7ff8000000000000 // the bits of what is no number
)

var (
	plan    = sorter.Plan{Hold: 4, Fan: 2}
	longest = strings.Repeat("\xff", api.MaxKey)
)

// vals are values of all kinds.
var vals = []float64{
	0, math.Copysign(0, -1), 1, -1, 0.1, 1e300, -1e300, math.SmallestNonzeroFloat64, -math.MaxFloat64, math.MaxFloat64,
	math.Inf(1), math.Inf(-1), math.NaN(), math.Float64frombits(0xfff0000000000009),
}

func tumbling(size int64) api.Config {
	return api.Config{Kind: api.Tumbling, Size: size, Parts: 1}
}

func sliding(size, step int64) api.Config {
	return api.Config{Kind: api.Sliding, Size: size, Step: step, Parts: 1}
}

func session(size int64) api.Config {
	return api.Config{Kind: api.Session, Size: size, Parts: 1}
}

// with are a config's Late, Skew and Parts.
func with(c api.Config, late, skew int64, parts int) api.Config {
	c.Late, c.Skew, c.Parts = late, skew, parts
	return c
}

// upTo is a config whose archive ends at a cut.
func upTo(c api.Config, cut int) api.Config {
	c.Cut = uint64(cut)
	return c
}

// configs are configs of each kind, with Late and Skew of 0, above, and as late as one likes.
func configs() []api.Config {
	var l []api.Config
	for _, c := range []api.Config{tumbling(1), tumbling(10), sliding(10, 4), sliding(16, 1), session(1), session(5), session(api.MaxSize)} {
		for _, late := range []int64{-1, 0, 7} {
			l = append(l, with(c, late, 0, 1), with(c, late, 3, 2))
		}
	}
	return append(l, with(tumbling(10), math.MinInt64, api.MaxSize, api.MaxParts), with(sliding(api.MaxSize, api.MaxSize/16), api.MaxSize, 0, 1))
}

// anyConfig is a config of small sizes, of each kind.
func anyConfig(r *rand.Rand) api.Config {
	size := 1 + r.Int64N(16)
	c := []api.Config{tumbling(size), session(size)}[r.IntN(2)]
	if r.IntN(3) == 0 {
		fewest := (size + api.MaxShare - 1) / api.MaxShare
		c = sliding(size, fewest+r.Int64N(size-fewest+1))
	}
	return with(c, []int64{-1, 0, 1, r.Int64N(20)}[r.IntN(4)], []int64{0, 1, r.Int64N(20)}[r.IntN(3)], 1+r.IntN(3))
}

// someLog are a log's first n events, of few keys, whose times rise by and by, more or less.
func someLog(r *rand.Rand, n, parts int) []api.Event {
	keys := []string{"", "a", "ab", "b", "a\x00", longest}[r.IntN(5):]
	around, pace, within := r.Int64N(100)-80, r.Int64N(4), 1+r.Int64N(25)
	l := make([]api.Event, n)
	for i := range l {
		l[i] = api.Event{
			Offset: uint64(i),
			Part:   r.IntN(parts),
			Time:   around + int64(i)*pace + r.Int64N(within),
			Key:    keys[r.IntN(len(keys))],
			Val:    math.Ldexp(r.Float64()-0.5, r.IntN(200)-100),
		}
		if r.IntN(20) == 0 {
			l[i].Val = vals[r.IntN(len(vals))]
		}
	}
	return l
}

// logOf are a log's first events.
func logOf(l ...api.Event) []api.Event {
	for i := range l {
		l[i].Offset = uint64(i)
	}
	return l
}

// at is an event, but for its offset.
func at(time int64, key string, val float64) api.Event {
	return api.Event{Time: time, Key: key, Val: val}
}

// someOrder is a list in another order, more or less, in which some are there twice.
func someOrder(r *rand.Rand, l []api.Event) []api.Event {
	l = slices.Clone(l)
	far := 1 + r.IntN(12)
	for i := range l {
		j := min(len(l)-1, i+r.IntN(far))
		l[i], l[j] = l[j], l[i]
	}
	for range len(l) / 8 {
		l = slices.Insert(l, r.IntN(len(l)), l[r.IntN(len(l))])
	}
	return l
}

func check(t testing.TB, what any, got, want api.Errno) {
	t.Helper()
	if got != want {
		t.Fatalf("%v: error %d, not %d", what, got, want)
	}
}

func newStore(t testing.TB, room int) *files.Store {
	t.Helper()
	s, e := files.New(room)
	check(t, "files.New", e, api.OK)
	return s
}

// put makes a file of these bytes, durable, in the place of the one that there is.
func put(t testing.TB, s *files.Store, name string, p []byte) {
	t.Helper()
	if slices.Contains(s.List(), name) {
		check(t, "Delete "+name, s.Delete(name), api.OK)
	}
	check(t, "Append "+name, s.Append(name, p), api.OK)
	check(t, "Sync "+name, s.Sync(name), api.OK)
}

// archive seals a log's first events in a store, in segments of so many each; those that are left over are the last one.
func archive(t testing.TB, s *files.Store, l []api.Event, parts int, sizes ...int) {
	t.Helper()
	cat, e := catalog.Open(s, parts)
	check(t, "catalog.Open", e, api.OK)
	for _, n := range sizes {
		n = min(n, len(l))
		if n > 0 {
			check(t, "Seal", cat.Seal(l[:n]), api.OK)
		}
		l = l[n:]
	}
	for rows := range slices.Chunk(l, api.MaxSeal) {
		check(t, "Seal", cat.Seal(rows), api.OK)
	}
}

// filesOf are a store's files and their bytes.
func filesOf(t testing.TB, s *files.Store) map[string]string {
	t.Helper()
	l := map[string]string{}
	for _, name := range s.List() {
		p, e := s.Read(name)
		check(t, "Read "+name, e, api.OK)
		l[name] = string(p)
	}
	return l
}

// copied is a store of the same files, all durable.
func copied(t testing.TB, s *files.Store, room int) *files.Store {
	t.Helper()
	c := newStore(t, room)
	l := filesOf(t, s)
	for _, name := range slices.Sorted(maps.Keys(l)) {
		put(t, c, name, []byte(l[name]))
	}
	return c
}

// switchOff makes the power of a store go off, in an operation that comes to nothing.
func switchOff(t testing.TB, s *files.Store) {
	t.Helper()
	check(t, "Append", s.Append("zz", nil), api.OK)
	check(t, "Arm", s.Arm(1), api.OK)
	check(t, "Sync", s.Sync("zz"), api.ErrCrash)
}

// model is what an engine is to be, put together apart from it: an operator that is never saved, and what it told.
type model struct {
	c       api.Config
	o       *stream.Operator
	archive []api.Event
	came    []api.Event
	counted []api.Event // the archive, and those that came and weren't late
	commits [][]api.Change
	state   []byte // as of the last commit
	waiting []api.Change
}

// newModel is that of an archive's events, those below the config's cut; nothing is committed.
func newModel(t testing.TB, c api.Config, archive []api.Event) *model {
	t.Helper()
	b := batch.Boot{Groups: whole.Groups(c, archive), N: len(archive)}
	b.Marks, _ = mark.New(c.Parts)
	for _, e := range archive {
		b.Marks = b.Marks.See(e.Part, e.Time)
	}
	o, e := stream.New(c, b)
	check(t, "stream.New", e, api.OK)
	return &model{c: c, o: o, archive: archive, counted: slices.Clone(archive), waiting: o.Out()}
}

// mark is found by looking at all events.
func (m *model) mark() (int64, bool) {
	low := int64(math.MaxInt64)
	for part := range m.c.Parts {
		greatest, seen := int64(math.MinInt64), false
		for _, e := range slices.Concat(m.archive, m.came) {
			if e.Part == part {
				greatest, seen = max(greatest, e.Time), true
			}
		}
		if !seen {
			return 0, false
		}
		low = min(low, greatest)
	}
	return low - m.c.Skew, true
}

// isLate: is an event of this time late, by the end of the last window in which it is?
func (m *model) isLate(t int64) bool {
	step := map[byte]int64{api.Tumbling: m.c.Size, api.Sliding: m.c.Step, api.Session: 1}[m.c.Kind]
	end := t - ((t%step)+step)%step + m.c.Size
	mark, ok := m.mark()
	return ok && m.c.Late >= 0 && mark > end+m.c.Late
}

func (m *model) in(e api.Event) api.Errno {
	late := m.isLate(e.Time)
	err := m.o.In(e)
	if err == api.OK {
		m.came = append(m.came, e)
		if !late {
			m.counted = append(m.counted, e)
		}
	}
	m.waiting = append(m.waiting, m.o.Out()...)
	return err
}

func (m *model) end() api.Errno {
	err := m.o.End()
	m.waiting = append(m.waiting, m.o.Out()...)
	return err
}

func (m *model) commit() {
	m.commits = append(m.commits, m.waiting)
	m.state, m.waiting = m.o.Save(), nil
}

func (m *model) told() []api.Change {
	return slices.Concat(m.commits...)
}

// panes are those that must be there by the events alone: those that the mark has come to, or, behind the end, all.
func (m *model) panes() []api.Pane {
	l := whole.Panes(m.c, m.counted)
	mark, ok := m.mark()
	return slices.DeleteFunc(l, func(p api.Pane) bool { return !m.o.Ended() && (!ok || p.W.End > mark) })
}

// files are those that the commits are kept in.
func (m *model) files() map[string]string {
	n := len(m.commits)
	l := map[string]string{
		"man":                      string(page.Lay(nil, 'm', column.Uint(nil, uint64(n)))),
		fmt.Sprintf("state.%d", n): string(m.state),
	}
	for i, changes := range m.commits {
		l[fmt.Sprintf("out.%d", i+1)] = string(ledger.Lay(changes))
	}
	return l
}

// bitsOf are a number's, and of all that is none the one's.
func bitsOf(x float64) uint64 {
	if x != x {
		return theOne
	}
	return math.Float64bits(x)
}

func samePane(a, b api.Pane) bool {
	return a.Key == b.Key && a.W == b.W && a.A.Count == b.A.Count && a.A.Over == b.A.Over &&
		bitsOf(a.A.Sum) == bitsOf(b.A.Sum) && bitsOf(a.A.Min) == bitsOf(b.A.Min) && bitsOf(a.A.Max) == bitsOf(b.A.Max)
}

func same(a, b []api.Change) bool {
	return slices.EqualFunc(a, b, func(a, b api.Change) bool {
		return a.Put == b.Put && a.Rev == b.Rev && samePane(a.P, b.P)
	})
}

// briefly tells changes: + or -, the revision, the key, the window, how many values, and their sum.
func briefly(l []api.Change) string {
	var texts []string
	for _, c := range l {
		sign := "-"
		if c.Put {
			sign = "+"
		}
		texts = append(texts, fmt.Sprintf("%s%d %s[%d %d) %d %v", sign, c.Rev, c.P.Key, c.P.W.Start, c.P.W.End, c.P.A.Count, c.P.A.Sum))
	}
	return strings.Join(texts, ", ")
}

// checkEngine holds all that an engine tells against the model, and what must be there by the events alone.
func checkEngine(t testing.TB, what any, x *engine.Engine, m *model) {
	t.Helper()
	if x.Commits() != uint64(len(m.commits)) {
		t.Fatalf("%v: Commits = %d, not %d", what, x.Commits(), len(m.commits))
	}
	if l := x.Waiting(); !same(l, m.waiting) {
		t.Fatalf("%v: Waiting = %s\nnot %s", what, briefly(l), briefly(m.waiting))
	}
	g := x.Ledger()
	if l := g.All(); !same(l, m.told()) || g.Len() != len(l) {
		t.Fatalf("%v: the ledger has %s\nnot %s", what, briefly(l), briefly(m.told()))
	}
	if o := x.Operator(); !bytes.Equal(o.Save(), m.o.Save()) || len(o.Out()) > 0 {
		t.Fatalf("%v: the operator is %x, not %x", what, o.Save(), m.o.Save())
	}
	check(t, "the ledger and all that waits", g.Add(x.Waiting()), api.OK)
	if !slices.EqualFunc(g.View(), m.panes(), samePane) {
		t.Fatalf("%v: there is %+v\nnot %+v", what, g.View(), m.panes())
	}
}

// checkFiles looks that a store has the files of the model's commits, and those of its archive, and no others.
func checkFiles(t testing.TB, what any, s *files.Store, m *model) {
	t.Helper()
	want := m.files()
	got := filesOf(t, s)
	for name, p := range got {
		if name != "cat" && !strings.HasPrefix(name, "seg.") && want[name] != p {
			t.Fatalf("%v: the file %s is %q, not %q", what, name, p, want[name])
		}
	}
	for name := range want {
		if _, there := got[name]; !there {
			t.Fatalf("%v: there is no file %s; there are %q", what, name, s.List())
		}
	}
}

// checkUnchanged looks that a call changes nothing that a store tells, operations neither.
func checkUnchanged(t testing.TB, what any, s *files.Store, call func()) {
	t.Helper()
	on, ops, names := s.On(), s.Ops(), s.List()
	var before map[string]string
	if on {
		before = filesOf(t, s)
	}
	call()
	if s.On() != on || s.Ops() != ops || !slices.Equal(s.List(), names) || on && !maps.Equal(filesOf(t, s), before) {
		t.Fatalf("%v: the store has changed: %q, %d operations; it had %q, %d", what, s.List(), s.Ops(), names, ops)
	}
}

// checkNotOpened looks that Open answers this error beside no engine, and that no file of a store has changed.
func checkNotOpened(t testing.TB, what any, s *files.Store, c api.Config, p sorter.Plan, want api.Errno) {
	t.Helper()
	var before map[string]string
	if s.On() {
		before = filesOf(t, s)
	}
	x, e := engine.Open(s, c, p)
	if x != nil || e != want {
		t.Fatalf("%v: Open = %v, error %d; not error %d", what, x, e, want)
	}
	if before != nil && !maps.Equal(filesOf(t, s), before) {
		t.Fatalf("%v: files %q; there were %q", what, s.List(), slices.Sorted(maps.Keys(before)))
	}
}

// opened is an engine on a store; its error must be none.
func opened(t testing.TB, what any, s *files.Store, c api.Config) *engine.Engine {
	t.Helper()
	x, e := engine.Open(s, c, plan)
	if x == nil || e != api.OK {
		t.Fatalf("%v: Open = %v, error %d", what, x, e)
	}
	return x
}

// both is an engine on a store that has a log's events up to the config's cut as its archive, in segments of so many each, and its model.
func both(t testing.TB, what any, s *files.Store, c api.Config, log []api.Event, sizes ...int) (*engine.Engine, *model) {
	t.Helper()
	archive(t, s, log[:c.Cut], c.Parts, sizes...)
	x := opened(t, what, s, c)
	m := newModel(t, c, log[:c.Cut])
	m.commit()
	checkEngine(t, what, x, m)
	checkFiles(t, what, s, m)
	return x, m
}

// checkIn, checkEnd and checkCommit do the same to both.
func checkIn(t testing.TB, what any, x *engine.Engine, m *model, e api.Event) {
	t.Helper()
	want := m.in(e)
	check(t, fmt.Sprintf("%v: In(%+v)", what, e), x.In(e), want)
}

func checkEnd(t testing.TB, what any, x *engine.Engine, m *model) {
	t.Helper()
	want := m.end()
	check(t, fmt.Sprintf("%v: End", what), x.End(), want)
}

func checkCommit(t testing.TB, what any, x *engine.Engine, m *model) {
	t.Helper()
	check(t, fmt.Sprintf("%v: Commit", what), x.Commit(), api.OK)
	m.commit()
}
