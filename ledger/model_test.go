package ledger_test

import (
	"bytes"
	"math"
	"math/rand/v2"
	"slices"
	"strings"
	"testing"

	"headrace/api"
	"headrace/ledger"
)

const theOne = 0x7ff8000000000000 // the bits of what is no number

var (
	minusZero = math.Copysign(0, -1)
	plusInf   = math.Inf(1)
	minusInf  = math.Inf(-1)
	nan       = math.Float64frombits(theOne)
	longest   = strings.Repeat("k", api.MaxKey)
)

// none are numbers that are none, of other bits than the one's.
var none = []float64{
	math.NaN(),
	math.Float64frombits(0x7ff0000000000001),
	math.Float64frombits(0xfff0000000000009),
	math.Float64frombits(0xfff8000000000000),
	math.Float64frombits(math.MaxUint64),
}

// tellings are of all kinds, each another one, some of which no values come to.
var tellings = []api.Agg{
	{},
	{Count: 1},
	{Count: 1, Sum: 1.5, Min: 1.5, Max: 1.5},
	{Count: 2, Sum: 1.5, Min: 1.5, Max: 1.5},
	{Count: 3, Sum: 6, Min: 1, Max: 3},
	{Count: 3, Sum: 6, Min: 2, Max: 3},
	{Count: 3, Sum: 6, Min: 1, Max: 4},
	{Count: 3, Sum: 7, Min: 1, Max: 3},
	{Count: 3, Sum: 6, Over: true, Min: 1, Max: 3},
	{Count: 1, Sum: minusZero},
	{Count: 1, Min: minusZero},
	{Count: 1, Max: minusZero},
	{Count: 1, Sum: minusZero, Min: minusZero, Max: minusZero},
	{Count: 2, Sum: plusInf, Over: true, Min: 1e308, Max: 1e308},
	{Count: 2, Sum: plusInf, Min: 1, Max: plusInf},
	{Count: 2, Sum: minusInf, Min: minusInf, Max: 1},
	{Count: 2, Sum: nan, Min: 1, Max: 1},
	{Count: 2, Sum: 1, Min: nan, Max: 1},
	{Count: 2, Sum: 1, Min: 1, Max: nan},
	{Count: 2, Sum: nan, Min: minusInf, Max: plusInf},
	{Count: 2, Sum: nan, Min: nan, Max: nan},
	{Count: 1, Sum: 5e-324, Min: 5e-324, Max: 5e-324},
	{Count: api.MaxOffset, Sum: math.MaxFloat64, Min: -5e-324, Max: math.MaxFloat64},
	{Over: true},
}

func win(from, to int64) api.Window {
	return api.Window{Start: from, End: to}
}

func pane(key string, w api.Window, a api.Agg) api.Pane {
	return api.Pane{Key: key, W: w, A: a}
}

// put is p told in a revision; back is it taken back.
func put(rev uint64, p api.Pane) api.Change {
	return api.Change{Put: true, Rev: rev, P: p}
}

func back(rev uint64, p api.Pane) api.Change {
	return api.Change{Rev: rev, P: p}
}

// risen are panes whose keys and windows are unlike, in one of key, start and end alone, too, each of which stands ahead of the next one.
func risen() []api.Pane {
	var l []api.Pane
	for _, key := range []string{"", "\x00", "A", "a", "a\x00", "aa", "ab", "b", "é", longest, longest + "k", "\xf0"} {
		for _, w := range []api.Window{
			win(math.MinInt64, math.MinInt64), win(math.MinInt64, math.MaxInt64), win(-api.MaxTime, api.MaxTime),
			win(-10, -5), win(-10, 0), win(-10, 10), win(0, -1), win(0, 0), win(0, 9), win(0, 10), win(1, 0), win(1, 2),
			win(9, 10), win(10, 20), win(math.MaxInt64, math.MinInt64),
		} {
			l = append(l, pane(key, w, tellings[len(l)%len(tellings)]))
		}
	}
	slices.SortStableFunc(l, func(a, b api.Pane) int { return strings.Compare(a.Key, b.Key) })
	return l
}

// bitsOf are a number's, and of all that is none the one's.
func bitsOf(x float64) uint64 {
	if x != x {
		return theOne
	}
	return math.Float64bits(x)
}

// alike: is it the same that is told?
func alike(a, b api.Agg) bool {
	return a.Count == b.Count && a.Over == b.Over &&
		bitsOf(a.Sum) == bitsOf(b.Sum) && bitsOf(a.Min) == bitsOf(b.Min) && bitsOf(a.Max) == bitsOf(b.Max)
}

func samePanes(a, b []api.Pane) bool {
	return slices.EqualFunc(a, b, func(a, b api.Pane) bool {
		return a.Key == b.Key && a.W == b.W && alike(a.A, b.A)
	})
}

func same(a, b []api.Change) bool {
	return slices.EqualFunc(a, b, func(a, b api.Change) bool {
		return a.Put == b.Put && a.Rev == b.Rev && samePanes([]api.Pane{a.P}, []api.Pane{b.P})
	})
}

// book is what a ledger is to hold, written apart from the program: changes, which are gone through each time.
type book []api.Change

// next tells whether c is next behind the changes, by how often its window was told, how often taken back, and as what it was told last.
func (b book) next(c api.Change) bool {
	told, taken := uint64(0), uint64(0)
	var last api.Agg
	for _, x := range b {
		if x.P.Key != c.P.Key || x.P.W != c.P.W {
			continue
		}
		if x.Put {
			told, last = told+1, x.P.A
		} else {
			taken++
		}
	}
	if c.Rev != taken {
		return false
	}
	if told == taken {
		return c.Put
	}
	return !c.Put && alike(c.P.A, last)
}

// add is the changes with those of l, and what Add is to answer.
func (b book) add(l []api.Change) (book, api.Errno) {
	with := slices.Clone(b)
	for _, c := range l {
		if !with.next(c) {
			return b, api.ErrOrder
		}
		with = append(with, c)
	}
	return with, api.OK
}

// view is the panes that are there, rising, each put where it belongs.
func (b book) view() []api.Pane {
	var l []api.Pane
	for i, c := range b {
		over := func(x api.Change) bool { return x.P.Key == c.P.Key && x.P.W == c.P.W }
		if !c.Put || slices.ContainsFunc(b[i+1:], over) {
			continue
		}
		at := 0
		for at < len(l) && ahead(l[at], c.P) {
			at++
		}
		l = slices.Insert(l, at, c.P)
	}
	return l
}

// ahead tells whether a stands ahead of b, by bytes of keys, starts and ends.
func ahead(a, b api.Pane) bool {
	if c := bytes.Compare([]byte(a.Key), []byte(b.Key)); c != 0 {
		return c < 0
	}
	if a.W.Start != b.W.Start {
		return a.W.Start < b.W.Start
	}
	return a.W.End < b.W.End
}

// check holds all that a ledger tells against the book.
func check(t *testing.T, what any, g *ledger.Ledger, want book) {
	t.Helper()
	if n := g.Len(); n != len(want) {
		t.Fatalf("%v: Len = %d, not %d", what, n, len(want))
	}
	if l := g.All(); !same(l, want) {
		t.Fatalf("%v: All = %+v, not %+v", what, l, want)
	}
	if l := g.View(); !samePanes(l, want.view()) {
		t.Fatalf("%v: View = %+v, not %+v", what, l, want.view())
	}
}

// checkAdd adds changes to both, and holds them against one another.
func checkAdd(t *testing.T, what any, g *ledger.Ledger, b book, l ...api.Change) book {
	t.Helper()
	with, want := b.add(l)
	if e := g.Add(l); e != want {
		t.Fatalf("%v: Add(%+v) behind %+v = %d, not %d", what, l, b, e, want)
	}
	check(t, what, g, with)
	return with
}

// mustAdd adds changes that are next, to both.
func mustAdd(t *testing.T, what any, g *ledger.Ledger, b book, l ...api.Change) book {
	t.Helper()
	with := checkAdd(t, what, g, b, l...)
	if len(with) != len(b)+len(l) {
		t.Fatalf("%v: %+v aren't next behind %+v", what, l, b)
	}
	return with
}

// mustRefuse adds changes that aren't next, which change nothing.
func mustRefuse(t *testing.T, what any, g *ledger.Ledger, b book, l ...api.Change) {
	t.Helper()
	if with := checkAdd(t, what, g, b, l...); len(with) != len(b) || len(l) == 0 {
		t.Fatalf("%v: %+v are next behind %+v", what, l, b)
	}
}

// ledgerOf is a ledger of changes, added one by one.
func ledgerOf(t *testing.T, l []api.Change) *ledger.Ledger {
	t.Helper()
	var g ledger.Ledger
	for i, c := range l {
		if e := g.Add([]api.Change{c}); e != api.OK {
			t.Fatalf("change %d, %+v: error %d", i, c, e)
		}
	}
	return &g
}

// somePanes are a few keys' windows, whose tellings aren't told.
func somePanes() []api.Pane {
	var l []api.Pane
	for _, key := range []string{"", "a", "b"} {
		for _, w := range []api.Window{win(0, 10), win(0, 11), win(-1, 10)} {
			l = append(l, api.Pane{Key: key, W: w})
		}
	}
	return l
}

// someBook is n changes, each next, of somePanes.
func someBook(r *rand.Rand, n int) book {
	var b book
	told := map[int]api.Agg{}
	revs := map[int]uint64{}
	panes := somePanes()
	for range n {
		at := r.IntN(len(panes))
		p := panes[at]
		if a, there := told[at]; there {
			p.A = a
			b = append(b, back(revs[at], p))
			delete(told, at)
			revs[at]++
			continue
		}
		p.A = tellings[r.IntN(len(tellings))]
		b = append(b, put(revs[at], p))
		told[at] = p.A
	}
	return b
}

// spoil is a change with one thing other than it was.
func spoil(r *rand.Rand, c api.Change) api.Change {
	switch r.IntN(9) {
	case 0:
		c.Put = !c.Put
	case 1:
		c.Rev++
	case 2:
		c.Rev--
	case 3:
		c.P.Key += "x"
	case 4:
		c.P.W.Start--
	case 5:
		c.P.W.End++
	case 6:
		c.P.A.Count++
	case 7:
		c.P.A = tellings[r.IntN(len(tellings))]
	case 8:
		c.P = somePanes()[r.IntN(len(somePanes()))]
	}
	return c
}
