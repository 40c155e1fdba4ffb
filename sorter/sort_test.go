package sorter_test

import (
	"fmt"
	"math"
	"math/rand/v2"
	"slices"
	"strings"
	"testing"

	"headrace/api"
	"headrace/files"
	"headrace/sorter"
)

// P10.1: the chapter's example.
func TestExample(t *testing.T) {
	var l []api.Event
	for i := range 10 {
		l = append(l, api.Event{Offset: uint64(i), Time: int64(9 - i), Key: "k"})
	}
	got, first, passes, e := sorter.Sort(newStore(t, 1<<12), l, 1, sorter.Plan{Hold: 2, Fan: 2})
	slices.Reverse(l)
	if !same(got, l) || first != 5 || passes != 3 || e != api.OK {
		t.Errorf("Sort = %+v, %d runs, %d passes, error %d", got, first, passes, e)
	}
}

// P10.1: Form, at its limits and one beyond.
func TestForm(t *testing.T) {
	ints := []int{math.MinInt, -1, 0, 1, 2, 3, api.MaxFan - 1, api.MaxFan, api.MaxFan + 1, api.MaxRows - 1, api.MaxRows, api.MaxRows + 1, math.MaxInt}
	for _, hold := range ints {
		for _, fan := range ints {
			p := sorter.Plan{Hold: hold, Fan: fan}
			want := hold > 0 && hold < 4097 && fan > 1 && fan < 17
			if p.Form() != want {
				t.Errorf("%s: Form = %v", planText(p), p.Form())
			}
			s := newStore(t, 1<<12)
			if want {
				sorted(t, "a plan of the form", s, eventsOf(1, 5), api.MaxParts, p)
			} else {
				checkError(t, planText(p), s, eventsOf(1, 5), api.MaxParts, p, api.ErrArg)
				checkError(t, planText(p), s, nil, 1, p, api.ErrArg)
			}
		}
	}
}

// P10.1: how many runs and passes there are, written out.
func TestCountsWrittenOut(t *testing.T) {
	for _, x := range []struct{ n, hold, fan, first, passes int }{
		{0, 1, 2, 0, 0},
		{0, api.MaxRows, 16, 0, 0},
		{1, 1, 2, 1, 0},
		{1, 5, 2, 1, 0},
		{5, 5, 2, 1, 0},
		{6, 5, 2, 2, 1},
		{2, 1, 2, 2, 1},
		{3, 1, 2, 3, 2},
		{4, 1, 2, 4, 2},
		{5, 1, 2, 5, 3},
		{8, 1, 2, 8, 3},
		{9, 1, 2, 9, 4},
		{3, 1, 3, 3, 1},
		{4, 1, 3, 4, 2},
		{9, 1, 3, 9, 2},
		{10, 1, 3, 10, 3},
		{15, 1, 16, 15, 1},
		{16, 1, 16, 16, 1},
		{17, 1, 16, 17, 2},
		{256, 1, 16, 256, 2},
		{257, 1, 16, 257, 3},
		{500, 1, 2, 500, 9},
		{4096, 4096, 2, 1, 0},
		{4097, 4096, 2, 2, 1},
	} {
		s := newStore(t, bigRoom)
		_, first, passes, e := sorter.Sort(s, eventsOf(2, x.n), api.MaxParts, sorter.Plan{Hold: x.hold, Fan: x.fan})
		if first != x.first || passes != x.passes || e != api.OK {
			t.Errorf("%+v: %d runs, %d passes, error %d", x, first, passes, e)
		}
	}
}

// edges are numbers of events at and about a plan's edges: of a run, of a pass, of two.
func edges(p sorter.Plan) []int {
	l := []int{0, 1, 2, 3}
	for _, runs := range []int{1, 2, p.Fan, p.Fan + 1, 2 * p.Fan, 2*p.Fan + 1, p.Fan * p.Fan, p.Fan*p.Fan + 1} {
		n := runs * p.Hold
		if n <= 10000 {
			l = append(l, n-1, n, n+1)
		}
	}
	return l
}

// P10.1: events in their order, of each plan, of numbers at its edges.
func TestEdges(t *testing.T) {
	for _, p := range plans() {
		for i, n := range edges(p) {
			checkSort(t, "at an edge", eventsOf(uint64(i), n), api.MaxParts, p)
		}
	}
}

// P10.1: runs that were merged have more events than one page may.
func TestGreatRuns(t *testing.T) {
	for _, p := range []sorter.Plan{{api.MaxRows, 2}, {api.MaxRows, api.MaxFan}, {api.MaxRows - 1, 3}, {100, api.MaxFan}} {
		for _, n := range []int{2*api.MaxRows - 1, 2 * api.MaxRows, 2*api.MaxRows + 1, 30000} {
			checkSort(t, "great runs", eventsOf(3, n), api.MaxParts, p)
		}
	}
	long := make([]api.Event, 3*api.MaxRows)
	r := rand.New(rand.NewPCG(10, 1))
	for i := range long {
		key := fmt.Sprintf("%032d", r.Uint64())
		long[i] = api.Event{Offset: r.Uint64N(api.MaxOffset), Part: r.IntN(8), Time: r.Int64N(2*api.MaxTime) - api.MaxTime, Key: key, Val: math.Float64frombits(r.Uint64())}
	}
	checkSort(t, "long keys", long, api.MaxParts, sorter.Plan{Hold: api.MaxRows, Fan: 2})
}

// P10.1: of events that stand alike the first one is first, in one run and across several, in each pass.
func TestAlike(t *testing.T) {
	for _, p := range plans() {
		for _, n := range []int{2, 3, 16, 17, 33, 100, 290} {
			checkSort(t, "alike", alike(n), api.MaxParts, p)
			mixed := slices.Concat(alike(n), eventsOf(4, 30), alike(n/2))
			checkSort(t, "alike, with others between", mixed, api.MaxParts, p)
		}
	}
}

// P10.1: what stands ahead is told by key, by its bytes, then by time, then by offset, from whatever runs; neither partition nor value play a part.
func TestOrder(t *testing.T) {
	l := []api.Event{
		{Key: "", Time: api.MaxTime, Offset: api.MaxOffset - 1, Part: 7, Val: math.Inf(1)},
		{Key: "Z", Time: 9, Offset: 9},
		{Key: "a", Time: -api.MaxTime, Offset: 9, Part: 5},
		{Key: "a", Time: -1, Offset: 3, Val: math.NaN()},
		{Key: "a", Time: -1, Offset: 4, Part: 1, Val: math.Copysign(0, -1)},
		{Key: "a", Time: 0, Offset: 0},
		{Key: "a", Time: 0, Offset: api.MaxOffset - 1, Val: 5e-324},
		{Key: "a", Time: api.MaxTime, Val: math.Inf(-1)},
		{Key: "a\x00", Time: -api.MaxTime},
		{Key: "aa", Val: math.MaxFloat64},
		{Key: "é"},
		{Key: "\xff"},
		{Key: strings.Repeat("\xff", api.MaxKey)},
	}
	r := rand.New(rand.NewPCG(10, 2))
	for hold := 1; hold <= len(l)+1; hold++ {
		for fan := 2; fan <= api.MaxFan; fan++ {
			mixed := slices.Clone(l)
			r.Shuffle(len(mixed), func(i, j int) { mixed[i], mixed[j] = mixed[j], mixed[i] })
			got := sorted(t, "in any order", newStore(t, 1<<16), mixed, api.MaxParts, sorter.Plan{Hold: hold, Fan: fan})
			if !same(got, l) {
				t.Fatalf("Hold %d, Fan %d: %+v", hold, fan, got)
			}
		}
	}
}

// P10.1: a value that is no number comes back as one, whatever its bits are.
func TestNoNumber(t *testing.T) {
	l := []api.Event{{Offset: 1, Val: math.Float64frombits(0xfff0000000000001)}, {Offset: 0, Val: math.NaN()}}
	got := sorted(t, "NaN", newStore(t, 1<<12), l, 1, sorter.Plan{Hold: 1, Fan: 2})
	if len(got) != 2 || !math.IsNaN(got[0].Val) || !math.IsNaN(got[1].Val) {
		t.Errorf("Sort = %+v", got)
	}
}

// P10.1: offsets in any order: rising, falling, all the same, with gaps.
func TestOffsets(t *testing.T) {
	for what, offset := range map[string]func(i int) uint64{
		"rising":   func(i int) uint64 { return uint64(i) },
		"falling":  func(i int) uint64 { return uint64(1000 - i) },
		"the same": func(i int) uint64 { return 3 },
		"gaps":     func(i int) uint64 { return api.MaxOffset - 1 - uint64(i*i)*1000 },
		"by turns": func(i int) uint64 { return uint64(i % 5) },
	} {
		l := alike(120)
		for i := range l {
			l[i].Offset = offset(i)
		}
		for _, p := range []sorter.Plan{{1, 2}, {7, 3}, {40, 2}, {120, 2}} {
			checkSort(t, what, l, api.MaxParts, p)
		}
	}
}

// P10.1, P2: any events, by any plan.
func TestAny(t *testing.T) {
	r := rand.New(rand.NewPCG(10, 3))
	for seed := range uint64(300) {
		p := sorter.Plan{Hold: 1 + r.IntN(30), Fan: 2 + r.IntN(api.MaxFan-1)}
		checkSort(t, "any", eventsOf(seed, r.IntN(400)), api.MaxParts, p)
	}
}

// P10.1: 1 to MaxParts partitions, and an event is held against them.
func TestParts(t *testing.T) {
	p := sorter.Plan{Hold: 2, Fan: 2}
	for _, parts := range []int{math.MinInt, -1, 0, api.MaxParts + 1, math.MaxInt} {
		s := newStore(t, 1<<12)
		checkError(t, "parts", s, nil, parts, p, api.ErrArg)
		checkError(t, "parts", s, eventsOf(1, 3), parts, p, api.ErrArg)
		checkError(t, "parts", s, []api.Event{{Part: -1}}, parts, p, api.ErrArg)
	}
	for parts := 1; parts <= api.MaxParts; parts++ {
		l := alike(9)
		for i := range l {
			l[i].Part = (i * 5) % parts
		}
		l[3].Part = parts - 1
		checkSort(t, "parts", l, parts, p)
		if parts > 1 {
			checkError(t, "parts", newStore(t, 1<<12), l, parts-1, p, api.ErrForm)
		}
	}
}

// malformed are events without event.Form.
func malformed() []api.Event {
	return []api.Event{
		{Part: -1},
		{Part: api.MaxParts},
		{Part: math.MaxInt},
		{Time: api.MaxTime + 1},
		{Time: -api.MaxTime - 1},
		{Time: math.MinInt64},
		{Key: strings.Repeat("k", api.MaxKey+1)},
		{Offset: api.MaxOffset},
		{Offset: math.MaxUint64},
	}
}

// P10.1: an event without event.Form, wherever it is.
func TestErrForm(t *testing.T) {
	for _, bad := range malformed() {
		for _, n := range []int{1, 2, 7, 50} {
			for _, at := range []int{0, n / 2, n - 1} {
				l := eventsOf(5, n)
				l[at] = bad
				s := newStore(t, 1<<16)
				putOthers(t, s)
				checkError(t, fmt.Sprintf("%+v at %d", bad, at), s, l, api.MaxParts, sorter.Plan{Hold: 2, Fan: 2}, api.ErrForm)
				checkOthers(t, "ErrForm", s)
			}
		}
	}
}

// P10.1: the order of errors: ErrNone, ErrArg, ErrForm, the store's.
func TestOrderOfErrors(t *testing.T) {
	good, bad := eventsOf(6, 5), []api.Event{{Part: -1}}
	p, none := sorter.Plan{Hold: 1, Fan: 2}, sorter.Plan{}
	for _, l := range [][]api.Event{nil, good, bad} {
		checkError(t, "no store", nil, l, api.MaxParts, p, api.ErrNone)
		checkError(t, "no store, no plan", nil, l, api.MaxParts, none, api.ErrNone)
		checkError(t, "no store, no parts", nil, l, 0, p, api.ErrNone)
	}
	off, full := newStore(t, 1<<12), newStore(t, 1)
	put(t, off, "run.0", nil)
	check(t, "Arm", off.Arm(1), api.OK)
	check(t, "Append", off.Append("z", nil), api.ErrCrash)
	for what, s := range map[string]*files.Store{"off": off, "full": full} {
		checkError(t, what+", no plan", s, good, api.MaxParts, none, api.ErrArg)
		checkError(t, what+", no plan, no form", s, bad, api.MaxParts, none, api.ErrArg)
		checkError(t, what+", no parts", s, bad, 0, p, api.ErrArg)
		checkError(t, what+", no form", s, bad, api.MaxParts, p, api.ErrForm)
	}
	checkError(t, "off", off, good, api.MaxParts, p, api.ErrCrash)
	checkError(t, "full", full, good, api.MaxParts, p, api.ErrFull)
}

// What is handed in may be written over behind the call, and so may what is answered.
func TestMemory(t *testing.T) {
	for _, p := range []sorter.Plan{{1, 2}, {16, 3}, {api.MaxRows, 2}} {
		s := newStore(t, bigRoom)
		l := eventsOf(7, 200)
		want := inOrder(l)
		got := sorted(t, "memory", s, l, api.MaxParts, p)
		clear(l)
		if !same(got, want) {
			t.Errorf("%s: what is answered hangs on what was handed in", planText(p))
		}
		l = eventsOf(7, 200)
		before := slices.Clone(l)
		clear(got[:cap(got)])
		if again := sorted(t, "memory", s, l, api.MaxParts, p); !same(again, want) || !same(l, before) {
			t.Errorf("%s: what is answered next hangs on what was answered", planText(p))
		}
	}
}

// A piece of a list is sorted, and the list behind it stays.
func TestPieceOfAList(t *testing.T) {
	l := eventsOf(8, 100)
	before := slices.Clone(l)
	sorted(t, "a piece", newStore(t, bigRoom), l[10:40], api.MaxParts, sorter.Plan{Hold: 4, Fan: 2})
	if !same(l, before) {
		t.Error("the list has changed")
	}
}

// FuzzSort: events and plans of all kinds.
func FuzzSort(f *testing.F) {
	f.Add(uint64(1), 20, 3, 2)
	f.Add(uint64(2), 0, 1, 16)
	f.Fuzz(func(t *testing.T, seed uint64, n, hold, fan int) {
		p := sorter.Plan{Hold: hold, Fan: fan}
		if n < 0 || n > 3000 {
			return
		}
		l := eventsOf(seed, n)
		if !p.Form() {
			checkError(t, "fuzz", newStore(t, bigRoom), l, api.MaxParts, p, api.ErrArg)
			return
		}
		if first, _ := counted(n, p); first > api.MaxFiles-len(others) {
			return
		}
		checkSort(t, "fuzz", l, api.MaxParts, p)
	})
}
