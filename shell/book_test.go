package shell_test

import (
	"cmp"
	"fmt"
	"math"
	"math/big"
	"slices"
	"strconv"
	"strings"
	"testing"

	"headrace/api"
	"headrace/column"
	"headrace/files"
	"headrace/page"
)

// book tells what each line comes to, by the document's words alone, without the program: which events counted, and what is told of them, worked out anew each time.
type book struct {
	c    api.Config
	form bool
	log  []api.Event
	on   bool
	segs []int // how many events each segment has

	kept   past // what is committed
	commit int
	engine bool
	fell   bool // there is an engine behind a fall
	shown  past // what is committed, as far as the engine knows
	now    past
	done   *book // what it would be, had the line that was cut been done
}

// past is what came, in its order, and whether the end was told.
type past struct {
	came  []int
	ended bool
}

func newBook(settings string, form bool) *book {
	return &book{c: configOf(settings), form: form, on: true}
}

func (b *book) sealed() int {
	n := 0
	for _, x := range b.segs {
		n += x
	}
	return n
}

// line is what a line comes to, if the power stays on.
func (b *book) line(t string) string {
	if t == "view" {
		return b.view()
	}
	x, ok := stepOf(t)
	if !ok {
		return "error 13"
	}
	word, _, _ := strings.Cut(t, " ")
	var e api.Errno
	switch word {
	case "emit":
		e = b.emit(x.E)
	case "seal":
		e = b.seal(x.N)
	case "compact":
		e = b.compact(x.N)
	case "open":
		e = b.open()
	case "in":
		e = b.in(x.N)
	case "end":
		if e = b.can(); e == api.OK && b.now.ended {
			e = api.ErrState
		} else if e == api.OK {
			b.now.ended = true
		}
	case "commit":
		if e = b.can(); e == api.OK && b.commit == api.MaxFiles/4 {
			e = api.ErrArg
		} else if e == api.OK {
			b.commit++
			b.kept = past{slices.Clone(b.now.came), b.now.ended}
			b.shown = b.kept
		}
	case "arm":
		if x.N < 0 {
			e = api.ErrArg
		}
	case "restart":
		b.on, b.engine, b.fell = true, false, false
	}
	if e == api.OK {
		return "ok"
	}
	return fmt.Sprintf("error %d", e)
}

func (b *book) emit(e api.Event) api.Errno {
	if e.Part < 0 || e.Part >= b.c.Parts || e.Time < -(1<<40) || e.Time > 1<<40 || len(e.Key) > 32 {
		return api.ErrForm
	}
	e.Offset = uint64(len(b.log))
	b.log = append(b.log, e)
	return api.OK
}

func (b *book) catalogError() api.Errno {
	if b.c.Parts < 1 || b.c.Parts > 8 {
		return api.ErrArg
	}
	if !b.on {
		return api.ErrCrash
	}
	return api.OK
}

func (b *book) seal(n int) api.Errno {
	if e := b.catalogError(); e != api.OK {
		return e
	}
	if n < 1 || n > len(b.log)-b.sealed() {
		return api.ErrArg
	}
	if len(b.segs) >= 250 || n > 1024 {
		return api.ErrLong
	}
	b.segs = append(b.segs, n)
	return api.OK
}

func (b *book) compact(n int) api.Errno {
	if e := b.catalogError(); e != api.OK {
		return e
	}
	if n < 0 || n+1 >= len(b.segs) {
		return api.ErrArg
	}
	if b.segs[n]+b.segs[n+1] > 1024 {
		return api.ErrLong
	}
	b.segs = slices.Concat(b.segs[:n], []int{b.segs[n] + b.segs[n+1]}, b.segs[n+2:])
	return api.OK
}

func (b *book) open() api.Errno {
	b.engine, b.fell = false, false
	if !b.form {
		return api.ErrArg
	}
	if !b.on {
		return api.ErrCrash
	}
	if b.commit == 0 {
		if b.c.Cut > uint64(b.sealed()) {
			return api.ErrGap
		}
		b.commit = 1
	}
	b.engine = true
	b.shown = b.kept
	b.now = past{slices.Clone(b.kept.came), b.kept.ended}
	return api.OK
}

// can is the error of what needs an engine.
func (b *book) can() api.Errno {
	if !b.engine {
		return api.ErrNone
	}
	if !b.on || b.fell {
		return api.ErrCrash
	}
	return api.OK
}

func (b *book) in(n int) api.Errno {
	if n < 0 || n >= len(b.log) {
		return api.ErrArg
	}
	if e := b.can(); e != api.OK {
		return e
	}
	if b.now.ended {
		return api.ErrState
	}
	if uint64(n) < b.c.Cut {
		return api.ErrStale
	}
	if slices.Contains(b.now.came, n) {
		return api.ErrTwice
	}
	b.now.came = append(b.now.came, n)
	return api.OK
}

// view is what is shown of all that is committed.
func (b *book) view() string {
	if !b.engine {
		return ""
	}
	counted, mark, any := b.count(b.shown.came)
	var told []string
	for _, g := range b.groups(counted) {
		if b.shown.ended || any && g.end <= mark {
			told = append(told, g.text())
		}
	}
	return strings.Join(told, "\n")
}

// count tells which events counted, and how far the log was seen.
func (b *book) count(came []int) (counted []api.Event, mark int64, any bool) {
	greatest := map[int]int64{}
	see := func(e api.Event) {
		if t, there := greatest[e.Part]; !there || t < e.Time {
			greatest[e.Part] = e.Time
		}
		if any = len(greatest) == b.c.Parts; any {
			mark = math.MaxInt64
			for _, t := range greatest {
				mark = min(mark, t-b.c.Skew)
			}
		}
	}
	for _, e := range b.log[:b.c.Cut] {
		counted = append(counted, e)
		see(e)
	}
	for _, n := range came {
		e := b.log[n]
		if !any || b.c.Late < 0 || mark <= b.last(e.Time)+b.c.Late {
			counted = append(counted, e)
		}
		see(e)
	}
	return counted, mark, any
}

// starts are the starts of the windows in which a time is, of Tumbling and Sliding.
func (b *book) starts(t int64) (l []int64) {
	step := b.c.Size
	if b.c.Kind == api.Sliding {
		step = b.c.Step
	}
	for s := t - b.c.Size + 1; s <= t; s++ {
		if s%step == 0 {
			l = append(l, s)
		}
	}
	return l
}

// last is the end of the last window in which a time is.
func (b *book) last(t int64) int64 {
	if b.c.Kind == api.Session {
		return t + b.c.Size
	}
	return slices.Max(b.starts(t)) + b.c.Size
}

// group is the values of a key in a window.
type group struct {
	key        string
	start, end int64
	vals       []float64
}

// groups are those of some events, rising.
func (b *book) groups(l []api.Event) []group {
	var groups []group
	for _, e := range l {
		if b.c.Kind == api.Session {
			g := group{e.Key, e.Time, e.Time + b.c.Size, []float64{e.Val}}
			groups = g.into(groups, func(o group) bool { return o.start < g.end && g.start < o.end })
			continue
		}
		for _, s := range b.starts(e.Time) {
			g := group{e.Key, s, s + b.c.Size, []float64{e.Val}}
			groups = g.into(groups, func(o group) bool { return o.start == s })
		}
	}
	slices.SortFunc(groups, func(a, b group) int {
		return cmp.Or(strings.Compare(a.key, b.key), cmp.Compare(a.start, b.start), cmp.Compare(a.end, b.end))
	})
	return groups
}

// into are the groups in which all those of its key that it is one with are joined to it. (Of sessions those that it meets don't meet others, as they didn't ahead of it.)
func (g group) into(groups []group, one func(group) bool) []group {
	var others []group
	for _, o := range groups {
		if o.key != g.key || !one(o) {
			others = append(others, o)
			continue
		}
		g.start, g.end, g.vals = min(g.start, o.start), max(g.end, o.end), slices.Concat(g.vals, o.vals)
	}
	return append(others, g)
}

// text is what is shown of a group.
func (g group) text() string {
	sum, over := exactSum(g.vals)
	least, greatest := g.vals[0], g.vals[0]
	for _, x := range g.vals[1:] {
		if ahead(x, least) {
			least = x
		}
		if ahead(greatest, x) {
			greatest = x
		}
	}
	word := ""
	if over {
		word = " over"
	}
	return fmt.Sprintf("%s [%d, %d) %d %s%s %s %s", strconv.Quote(g.key), g.start, g.end, len(g.vals), realText(sum), word, realText(least), realText(greatest))
}

// ahead tells whether a number stands ahead of another: -0 ahead of 0, what is no number behind all.
func ahead(a, b float64) bool {
	if a != a || b != b {
		return a == a
	}
	return a < b || a == b && math.Signbit(a) && !math.Signbit(b)
}

// exactSum is the sum of all, rounded once; true: it is too great for a number.
func exactSum(l []float64) (float64, bool) {
	no, most, least, zeros := false, false, false, true
	sum := new(big.Float).SetPrec(2400)
	for _, x := range l {
		no, most, least = no || x != x, most || math.IsInf(x, 1), least || math.IsInf(x, -1)
		zeros = zeros && x == 0 && math.Signbit(x)
		if x-x == 0 {
			sum.Add(sum, new(big.Float).SetFloat64(x))
		}
	}
	switch {
	case no || most && least:
		return math.NaN(), false
	case most:
		return math.Inf(1), false
	case least:
		return math.Inf(-1), false
	case zeros:
		return math.Copysign(0, -1), false
	}
	x, _ := sum.Float64()
	if x == 0 && sum.Sign() == 0 {
		return 0, false
	}
	return x, math.IsInf(x, 0)
}

// cut has the book go on behind a fall in a line.
func (b *book) cut(line string) {
	done := *b
	done.segs = slices.Clone(b.segs)
	done.line(line)
	b.on, b.done, b.fell = false, &done, b.engine
	if line == "open" {
		b.engine, b.fell = false, false
	}
}

// resume looks that a store keeps what was there ahead of the line that was cut, or what that would have made.
func (b *book) resume(t testing.TB, s *files.Store) {
	t.Helper()
	segs, commit := kept(t, s)
	if done := b.done; done != nil && commit != b.commit {
		b.commit, b.kept = done.commit, done.kept
	}
	if done := b.done; done != nil && !slices.Equal(segs, b.segs) {
		b.segs = done.segs
	}
	if !slices.Equal(segs, b.segs) || commit != b.commit {
		t.Fatalf("segments %v, %d commits; not %v, %d", segs, commit, b.segs, b.commit)
	}
	b.done = nil
}

// kept are what a store keeps: how many events each segment has, how many commits there were.
func kept(t testing.TB, s *files.Store) (segs []int, commit int) {
	t.Helper()
	if p, e := s.Read("cat"); e == api.OK {
		body, e := page.One(p, 'c')
		check(t, "cat", e, api.OK)
		column.Try(body, func(r *column.Reader) {
			r.Uint(8)
			for range r.Uint(250) {
				from := r.Uint(1 << 40)
				segs = append(segs, int(r.Uint(1<<40)-from))
				r.Int()
				r.Int()
			}
		})
	}
	if p, e := s.Read("man"); e == api.OK {
		body, e := page.One(p, 'm')
		check(t, "man", e, api.OK)
		column.Try(body, func(r *column.Reader) { commit = int(r.Uint(125)) })
	}
	return segs, commit
}
