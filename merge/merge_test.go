package merge_test

import (
	"cmp"
	"fmt"
	"math"
	"math/rand/v2"
	"slices"
	"strings"
	"testing"

	"headrace/api"
	"headrace/merge"
)

// from is an event, and the run that it came of.
type from struct {
	e   api.Event
	run int
}

func compare(a, b api.Event) int {
	return cmp.Or(strings.Compare(a.Key, b.Key), cmp.Compare(a.Time, b.Time), cmp.Compare(a.Offset, b.Offset))
}

// merged is what is to be answered, told apart from the program: the runs one behind the other, sorted so that what stands alike stays.
func merged(runs [][]api.Event) []from {
	var l []from
	for i, run := range runs {
		for _, e := range run {
			l = append(l, from{e, i})
		}
	}
	slices.SortStableFunc(l, func(a, b from) int { return compare(a.e, b.e) })
	return l
}

// sameEvent: are they one event, to the bits of their values?
func sameEvent(a, b api.Event) bool {
	x, y := math.Float64bits(a.Val), math.Float64bits(b.Val)
	a.Val, b.Val = 0, 0
	return a == b && x == y
}

func copyOf(runs [][]api.Event) [][]api.Event {
	l := slices.Clone(runs)
	for i := range l {
		l[i] = slices.Clone(l[i])
	}
	return l
}

func newTree(t *testing.T, runs [][]api.Event) *merge.Tree {
	t.Helper()
	tree, e := merge.New(runs)
	if tree == nil || e != api.OK {
		t.Fatalf("New of %d runs = %v, error %d", len(runs), tree, e)
	}
	return tree
}

func checkEnd(t *testing.T, what string, tree *merge.Tree) {
	t.Helper()
	for range 3 {
		if e, run, ok := tree.Next(); e != (api.Event{}) || run != 0 || ok {
			t.Errorf("%s: at the end Next = %+v, %d, %v", what, e, run, ok)
		}
	}
}

// checkMerged holds New, Next and All of some runs against what is to be answered, and looks that the runs stay as they are.
func checkMerged(t *testing.T, what string, runs [][]api.Event) {
	t.Helper()
	before := copyOf(runs)
	want := merged(runs)
	tree := newTree(t, runs)
	for i, w := range want {
		if e, run, ok := tree.Next(); !sameEvent(e, w.e) || run != w.run || !ok {
			t.Fatalf("%s: Next, for the %d-th time, = %+v, %d, %v; not %+v", what, i, e, run, ok, w)
		}
	}
	checkEnd(t, what, tree)
	l, e := merge.All(runs)
	same := func(e api.Event, w from) bool { return sameEvent(e, w.e) }
	if e != api.OK || !slices.EqualFunc(l, want, same) {
		t.Errorf("%s: All = %+v, error %d; not %+v", what, l, e, want)
	}
	if !slices.EqualFunc(runs, before, func(a, b []api.Event) bool { return slices.EqualFunc(a, b, sameEvent) }) {
		t.Errorf("%s: the runs have changed", what)
	}
}

// keyed are events of these keys, a byte each, told apart by their values.
func keyed(keys string) []api.Event {
	var l []api.Event
	for i := range len(keys) {
		l = append(l, api.Event{Key: keys[i : i+1], Val: float64(i)})
	}
	return l
}

func runsOf(l ...string) [][]api.Event {
	var runs [][]api.Event
	for _, keys := range l {
		runs = append(runs, keyed(keys))
	}
	return runs
}

// P9.1: the chapter's example.
func TestExample(t *testing.T) {
	l, e := merge.All(runsOf("ac", "b"))
	var keys string
	for _, x := range l {
		keys += x.Key
	}
	if keys != "abc" || e != api.OK {
		t.Errorf("All = %s, error %d", keys, e)
	}
}

// P9.1: which run the next event is of, written out.
func TestNextWrittenOut(t *testing.T) {
	for _, x := range []struct {
		runs []string
		want string
	}{
		{[]string{""}, ""},
		{[]string{"", ""}, ""},
		{[]string{"abc"}, "a0b0c0"},
		{[]string{"ac", "b"}, "a0b1c0"},
		{[]string{"b", "ac"}, "a1b0c1"},
		{[]string{"aa", "aa"}, "a0a0a1a1"},
		{[]string{"b", "ab", "ab"}, "a1a2b0b1b2"},
		{[]string{"", "z", "", "a", ""}, "a3z1"},
		{[]string{"adg", "beh", "cf"}, "a0b1c2d0e1f2g0h1"},
		{[]string{"c", "b", "a", "c", "b", "a", "c"}, "a2a5b1b4c0c3c6"},
	} {
		tree := newTree(t, runsOf(x.runs...))
		var got string
		for e, run, ok := tree.Next(); ok; e, run, ok = tree.Next() {
			got += e.Key + fmt.Sprint(run)
		}
		if got != x.want {
			t.Errorf("%q: %s, not %s", x.runs, got, x.want)
		}
		checkMerged(t, fmt.Sprint(x.runs), runsOf(x.runs...))
	}
}

// P9.1: what stands ahead is told by key, by its bytes, then by time, then by offset; neither partition nor value play a part.
func TestOrder(t *testing.T) {
	l := []api.Event{
		{Key: "", Time: 9, Offset: 9, Part: 7, Val: math.Inf(1)},
		{Key: "Z", Time: 9, Offset: 9},
		{Key: "a", Time: -api.MaxTime, Offset: 9, Part: 5},
		{Key: "a", Time: -1, Offset: 3, Val: math.NaN()},
		{Key: "a", Time: -1, Offset: 4, Part: 1},
		{Key: "a", Time: 0, Offset: 0},
		{Key: "a", Time: 0, Offset: math.MaxUint64},
		{Key: "a", Time: math.MaxInt64},
		{Key: "a\x00", Time: math.MinInt64},
		{Key: "aa"},
		{Key: "é"},
		{Key: "\xff"},
	}
	for i := range l {
		for j := range l {
			checkMerged(t, fmt.Sprint(i, j), [][]api.Event{l[i : i+1], l[j : j+1]})
		}
	}
	for step := 1; step <= len(l); step++ {
		runs := make([][]api.Event, step)
		for i, e := range l {
			runs[step-1-i%step] = append(runs[step-1-i%step], e)
		}
		checkMerged(t, fmt.Sprint(step, " runs"), runs)
	}
	all, _ := merge.All([][]api.Event{l})
	if !slices.EqualFunc(all, l, sameEvent) {
		t.Errorf("All = %+v", all)
	}
}

// anyRuns are so many runs, some of them empty, in which many events stand alike.
func anyRuns(r *rand.Rand, n int) [][]api.Event {
	runs := make([][]api.Event, n)
	val := 0.0
	for i := range runs {
		if r.IntN(4) == 0 {
			continue
		}
		for range r.IntN(30) {
			val++
			runs[i] = append(runs[i], api.Event{Key: []string{"", "a", "b"}[r.IntN(3)], Time: r.Int64N(3) - 1, Offset: r.Uint64N(3), Part: r.IntN(3), Val: val})
		}
		slices.SortStableFunc(runs[i], compare)
	}
	return runs
}

// P9.1, P2: any runs, 1 to MaxFan of them.
func TestAnyRuns(t *testing.T) {
	r := rand.New(rand.NewPCG(9, 1))
	for n := 1; n <= api.MaxFan; n++ {
		for range 60 {
			checkMerged(t, fmt.Sprint(n, " runs"), anyRuns(r, n))
		}
		checkMerged(t, "empty runs", make([][]api.Event, n))
		alike := slices.Repeat([][]api.Event{keyed("aaa")}, n)
		checkMerged(t, "runs that are alike", alike)
	}
}

func checkError(t *testing.T, what string, runs [][]api.Event, want api.Errno) {
	t.Helper()
	if tree, e := merge.New(runs); tree != nil || e != want {
		t.Errorf("%s: New = %v, error %d; not nil, %d", what, tree, e, want)
	}
	if l, e := merge.All(runs); len(l) != 0 || e != want {
		t.Errorf("%s: All = %v, error %d; not none, %d", what, l, e, want)
	}
}

// P9.1: how many runs there are goes ahead of what they are.
func TestErrArg(t *testing.T) {
	checkError(t, "nil", nil, api.ErrArg)
	checkError(t, "no runs", [][]api.Event{}, api.ErrArg)
	for _, n := range []int{api.MaxFan + 1, 2 * api.MaxFan, 1000} {
		checkError(t, "too many runs", make([][]api.Event, n), api.ErrArg)
		checkError(t, "too many runs", slices.Repeat([][]api.Event{keyed("ab")}, n), api.ErrArg)
		checkError(t, "too many runs, not in order", slices.Repeat([][]api.Event{keyed("ba")}, n), api.ErrArg)
	}
	checkMerged(t, "MaxFan", slices.Repeat([][]api.Event{keyed("ab")}, api.MaxFan))
}

// P9.1: a run that isn't in its order, wherever it is, and wherever in it.
func TestErrOrder(t *testing.T) {
	for n := 1; n <= api.MaxFan; n++ {
		for bad := range n {
			runs := slices.Repeat([][]api.Event{keyed("abc")}, n)
			for _, keys := range []string{"ba", "bac", "acb", "cba", "aaab\x00"} {
				runs[bad] = keyed(keys)
				checkError(t, keys, runs, api.ErrOrder)
			}
		}
	}
	checkError(t, "behind empty ones", [][]api.Event{nil, {}, keyed("ba"), nil}, api.ErrOrder)
	for what, l := range map[string][]api.Event{
		"times fall":           {{Key: "a", Time: 2}, {Key: "a", Time: 1, Offset: 5}},
		"offsets fall":         {{Key: "a", Time: 2, Offset: 1}, {Key: "a", Time: 2}},
		"keys fall, not times": {{Key: "b", Time: 1}, {Key: "a", Time: 2}},
		"bytes fall":           {{Key: "\xff"}, {Key: "é"}},
		"a longer key first":   {{Key: "aa"}, {Key: "a"}},
	} {
		checkError(t, what, [][]api.Event{keyed("ab"), l}, api.ErrOrder)
		slices.Reverse(l)
		checkMerged(t, what+", the other way round", [][]api.Event{keyed("ab"), l})
	}
}

// The list of the runs may be written over behind New; the runs may when Next has told the end, and so may what All answers.
func TestMemory(t *testing.T) {
	r := rand.New(rand.NewPCG(9, 2))
	for n := 1; n <= api.MaxFan; n++ {
		runs := anyRuns(r, n)
		want := merged(runs)
		list := slices.Clone(runs)
		tree := newTree(t, list)
		clear(list)
		for _, w := range want {
			if e, run, ok := tree.Next(); !sameEvent(e, w.e) || run != w.run || !ok {
				t.Fatalf("the tree hangs on the list: %+v, %d, %v; not %+v", e, run, ok, w)
			}
		}
		before := copyOf(runs)
		l, _ := merge.All(runs)
		clear(l[:cap(l)])
		if !slices.EqualFunc(runs, before, func(a, b []api.Event) bool { return slices.EqualFunc(a, b, sameEvent) }) {
			t.Error("what All answers is a run's")
		}
		l, _ = merge.All(runs)
		for _, run := range runs {
			clear(run[:cap(run)])
		}
		if !slices.EqualFunc(l, want, func(e api.Event, w from) bool { return sameEvent(e, w.e) }) {
			t.Error("what All answers hangs on the runs")
		}
	}
}

// P2: two trees of the same runs have nothing to do with each other.
func TestTwoTrees(t *testing.T) {
	runs := runsOf("abcd", "aabb", "")
	one := newTree(t, runs)
	for range 3 {
		one.Next()
	}
	checkMerged(t, "another tree", runs)
	if e, run, ok := one.Next(); e.Key != "b" || run != 0 || !ok {
		t.Errorf("Next = %+v, %d, %v", e, run, ok)
	}
}

// P9.1: a nil Tree; and a zero value, which is no object of New's, but panics at nothing.
func TestNil(t *testing.T) {
	checkEnd(t, "nil", nil)
	new(merge.Tree).Next()
}
