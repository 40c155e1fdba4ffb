package event_test

import (
	"cmp"
	"math"
	"math/rand/v2"
	"slices"
	"strings"
	"testing"

	"headrace/api"
	"headrace/event"
)

// none are bits of what is no number, of many kinds.
var none = []float64{
	math.Float64frombits(0x7ff8000000000000), math.NaN(), math.Float64frombits(0xfff0000000000009), math.Float64frombits(math.MaxUint64),
}

// vals are values that an event may have, each another one.
var vals = []float64{math.Inf(-1), -1.5, math.Copysign(0, -1), 0, 5e-324, 1, math.MaxFloat64, math.Inf(1), none[2]}

// alike: are two events the same, to the bit?
func alike(a, b api.Event) bool {
	return a.Offset == b.Offset && a.Part == b.Part && a.Time == b.Time && a.Key == b.Key && math.Float64bits(a.Val) == math.Float64bits(b.Val)
}

// P6.1: the edges of each field.
func TestForm(t *testing.T) {
	const parts = 3
	for _, c := range []struct {
		what   string
		change func(e *api.Event)
		want   bool
	}{
		{"nothing", func(e *api.Event) {}, true},
		{"Part -1", func(e *api.Event) { e.Part = -1 }, false},
		{"the least Part", func(e *api.Event) { e.Part = math.MinInt }, false},
		{"Part 0", func(e *api.Event) { e.Part = 0 }, true},
		{"Part parts - 1", func(e *api.Event) { e.Part = parts - 1 }, true},
		{"Part parts", func(e *api.Event) { e.Part = parts }, false},
		{"the greatest Part", func(e *api.Event) { e.Part = math.MaxInt }, false},
		{"Time -MaxTime", func(e *api.Event) { e.Time = -api.MaxTime }, true},
		{"Time -MaxTime - 1", func(e *api.Event) { e.Time = -api.MaxTime - 1 }, false},
		{"the least Time", func(e *api.Event) { e.Time = math.MinInt64 }, false},
		{"Time 0", func(e *api.Event) { e.Time = 0 }, true},
		{"Time MaxTime", func(e *api.Event) { e.Time = api.MaxTime }, true},
		{"Time MaxTime + 1", func(e *api.Event) { e.Time = api.MaxTime + 1 }, false},
		{"the greatest Time", func(e *api.Event) { e.Time = math.MaxInt64 }, false},
		{"no Key", func(e *api.Event) { e.Key = "" }, true},
		{"Key of MaxKey bytes", func(e *api.Event) { e.Key = strings.Repeat("k", api.MaxKey) }, true},
		{"Key of MaxKey + 1 bytes", func(e *api.Event) { e.Key = strings.Repeat("k", api.MaxKey+1) }, false},
		{"Key of MaxKey bytes, half as many letters", func(e *api.Event) { e.Key = strings.Repeat("ü", api.MaxKey/2) }, true},
		{"Key of MaxKey letters", func(e *api.Event) { e.Key = strings.Repeat("ü", api.MaxKey) }, false},
		{"Key of bytes that are no letters", func(e *api.Event) { e.Key = strings.Repeat("\xff", api.MaxKey) }, true},
		{"Offset 0", func(e *api.Event) { e.Offset = 0 }, true},
		{"Offset MaxOffset - 1", func(e *api.Event) { e.Offset = api.MaxOffset - 1 }, true},
		{"Offset MaxOffset", func(e *api.Event) { e.Offset = api.MaxOffset }, false},
		{"Offset 2^63", func(e *api.Event) { e.Offset = 1 << 63 }, false},
		{"the greatest Offset", func(e *api.Event) { e.Offset = math.MaxUint64 }, false},
	} {
		for _, x := range slices.Concat(vals, none) {
			e := api.Event{Offset: 7, Part: 1, Time: -7, Key: "key", Val: x}
			c.change(&e)
			if got := event.Form(e, parts); got != c.want {
				t.Errorf("%s, Val %v: Form = %v", c.what, x, got)
			}
		}
	}
}

// P6.1, P1: of each number of partitions, those too that no log has.
func TestFormOfParts(t *testing.T) {
	for parts := -2; parts <= api.MaxParts+2; parts++ {
		for part := -2; part <= api.MaxParts+2; part++ {
			if got := event.Form(api.Event{Part: part}, parts); got != (part >= 0 && part < parts) {
				t.Errorf("Part %d of %d: Form = %v", part, parts, got)
			}
		}
	}
	for _, parts := range []int{math.MinInt, math.MinInt + 1} {
		if event.Form(api.Event{}, parts) || event.Form(api.Event{Part: math.MaxInt}, parts) {
			t.Errorf("%d partitions: Form is true", parts)
		}
	}
	if !event.Form(api.Event{Part: math.MaxInt - 1}, math.MaxInt) || event.Form(api.Event{Part: math.MaxInt}, math.MaxInt) {
		t.Error("Form isn't as it should be of the greatest number of partitions")
	}
}

// P6.1: by Key, then Time, then Offset.
func TestLess(t *testing.T) {
	rising := []api.Event{
		{Key: "", Time: 5, Offset: 9},
		{Key: "\x00", Time: -5, Offset: 0},
		{Key: "A", Time: 0, Offset: 0},
		{Key: "a", Time: math.MinInt64, Offset: 3},
		{Key: "a", Time: -api.MaxTime, Offset: 2},
		{Key: "a", Time: -1, Offset: 0},
		{Key: "a", Time: -1, Offset: 1},
		{Key: "a", Time: -1, Offset: math.MaxInt64},
		{Key: "a", Time: -1, Offset: 1 << 63},
		{Key: "a", Time: -1, Offset: math.MaxUint64},
		{Key: "a", Time: 0, Offset: 0},
		{Key: "a", Time: api.MaxTime, Offset: 0},
		{Key: "a", Time: math.MaxInt64, Offset: 0},
		{Key: "a\x00", Time: 0, Offset: 0},
		{Key: "aa", Time: 0, Offset: 0},
		{Key: "b", Time: -9, Offset: 0},
		{Key: "z", Time: 0, Offset: 0},
		{Key: "\x7f", Time: 0, Offset: 0},
		{Key: "é", Time: 0, Offset: 0},
		{Key: "\xff", Time: 0, Offset: 0},
	}
	for i, a := range rising {
		for k, b := range rising {
			// Part and Val play no part.
			a.Part, b.Part = k, i
			a.Val, b.Val = float64(k), none[i%len(none)]
			if got := event.Less(a, b); got != (i < k) {
				t.Errorf("%#v, %#v: Less = %v", a, b, got)
			}
		}
	}
}

// P6.1: events are the same in all that they have; Val by its bits, all that is no number as one.
func TestSame(t *testing.T) {
	e := api.Event{Offset: 7, Part: 1, Time: -7, Key: "key", Val: 1}
	if !event.Same(e, e) || !event.Same(api.Event{}, api.Event{}) {
		t.Error("an event isn't the same as itself")
	}
	others := []api.Event{e, e, e, e, e, e}
	others[0].Offset, others[1].Part, others[2].Time, others[3].Key, others[4].Val, others[5].Key = 8, 2, 7, "kez", 2, "ke"
	for _, o := range others {
		if event.Same(e, o) || event.Same(o, e) {
			t.Errorf("%#v, %#v are the same", e, o)
		}
	}
	checkSameVals(t, e)
}

// checkSameVals holds an event with each value against itself with each other one.
func checkSameVals(t *testing.T, e api.Event) {
	t.Helper()
	all := slices.Concat(vals, none)
	for i, x := range all {
		for k, y := range all {
			a, b := e, e
			a.Val, b.Val = x, y
			if got, want := event.Same(a, b), i == k || x != x && y != y; got != want {
				t.Errorf("%v, %v: Same = %v", x, y, got)
			}
		}
	}
}

// someEvents are n events with Form, of few kinds, so that many are alike in the order.
func someEvents(seed uint64, n, parts int) []api.Event {
	r := rand.New(rand.NewPCG(seed, 6))
	keys := []string{"", "a", "b", "ab", "\xff", strings.Repeat("k", api.MaxKey)}
	l := make([]api.Event, n)
	for i := range l {
		l[i] = api.Event{
			Offset: uint64(r.IntN(4)),
			Part:   r.IntN(parts),
			Time:   int64(r.IntN(5)) - 2,
			Key:    keys[r.IntN(len(keys))],
			Val:    vals[r.IntN(len(vals))],
		}
	}
	return l
}

// sorted are the events in their order, told apart from the program: each is
// put behind all that aren't behind it.
func sorted(l []api.Event) []api.Event {
	var out []api.Event
	for _, e := range l {
		at := len(out)
		for at > 0 && ahead(e, out[at-1]) {
			at--
		}
		out = slices.Insert(out, at, e)
	}
	return out
}

func ahead(a, b api.Event) bool {
	if a.Key != b.Key {
		return a.Key < b.Key
	}
	if a.Time != b.Time {
		return a.Time < b.Time
	}
	return a.Offset < b.Offset
}

func checkSort(t *testing.T, l, want []api.Event) {
	t.Helper()
	before := slices.Clone(l)
	got := event.Sort(l)
	if !slices.EqualFunc(got, want, alike) {
		t.Errorf("Sort(%#v) = %#v, not %#v", before, got, want)
	}
	if !slices.EqualFunc(l, before, alike) {
		t.Errorf("Sort has changed its list: %#v, not %#v", l, before)
	}
}

// P6.1: the chapter's example, no events, one.
func TestSortWrittenOut(t *testing.T) {
	of := func(key string, time int64) api.Event { return api.Event{Key: key, Time: time} }
	checkSort(t, []api.Event{of("b", 1), of("a", 2), of("a", 1)}, []api.Event{of("a", 1), of("a", 2), of("b", 1)})
	checkSort(t, nil, nil)
	checkSort(t, []api.Event{}, nil)
	checkSort(t, []api.Event{of("a", 1)}, []api.Event{of("a", 1)})
	checkSort(t, []api.Event{{Offset: 2, Time: 1}, {Offset: 3}, {Offset: 1, Time: 1}}, []api.Event{{Offset: 3}, {Offset: 1, Time: 1}, {Offset: 2, Time: 1}})
}

// P6.1: events that are alike in Key, Time and Offset stay as they came.
func TestSortStays(t *testing.T) {
	for _, n := range []int{2, 3, 12, 13, 20, 21, 40, 100, 1000, api.MaxRows} {
		l := make([]api.Event, n)
		for i := range l {
			// What stands alike has other parts and other values, which fall.
			l[i] = api.Event{Key: "ab"[i%2 : i%2+1], Time: int64(i % 3), Offset: uint64(i % 2), Part: n - i, Val: -float64(i)}
		}
		got := event.Sort(l)
		for i := 1; i < len(got); i++ {
			a, b := got[i-1], got[i]
			if ahead(b, a) || !ahead(a, b) && a.Val <= b.Val {
				t.Errorf("%d events: %#v stands ahead of %#v", n, a, b)
			}
		}
	}
}

// P6.1, P2: many lists, sorted twice, held against a sorting of the test's own.
func TestSort(t *testing.T) {
	for n := range 60 {
		l := someEvents(uint64(n), n, 3)
		checkSort(t, l, sorted(l))
		checkSort(t, l, sorted(l))
		checkSort(t, sorted(l), sorted(l))
		slices.Reverse(l)
		checkSort(t, l, sorted(l))
	}
	l := someEvents(1, 3000, 8)
	checkSort(t, l, sorted(l))
}

// P6.1: events without Form are sorted, too.
func TestSortOfNoForm(t *testing.T) {
	l := []api.Event{
		{Key: strings.Repeat("k", 100), Part: -1, Offset: math.MaxUint64},
		{Key: "a", Time: math.MaxInt64, Part: 99},
		{Key: "a", Time: math.MinInt64},
		{Key: "a", Time: math.MinInt64, Offset: 1 << 63},
		{Key: "a", Time: math.MinInt64, Offset: 1<<63 - 1},
	}
	checkSort(t, l, []api.Event{l[2], l[4], l[3], l[1], l[0]})
}

// What Sort answers is new memory, though nothing had to move.
func TestSortMemory(t *testing.T) {
	room := []api.Event{{Key: "a"}, {Key: "b"}, {Key: "c"}, {Key: "d"}}
	l := room[:2]
	got := event.Sort(l)
	l[0].Key = "x"
	if got[0].Key != "a" {
		t.Errorf("what is answered is what was handed in: %#v", got)
	}
	got[1].Key = "y"
	_ = append(got, api.Event{Key: "z"})
	if l[1].Key != "b" || room[2].Key != "c" {
		t.Errorf("what was handed in has changed: %#v", room)
	}
}

// P6.1: Less and Sort go by one order: each event stands ahead, behind, or alike.
func TestLessIsAnOrder(t *testing.T) {
	l := someEvents(9, 40, 2)
	for _, a := range l {
		for _, b := range l {
			want := cmp.Or(strings.Compare(a.Key, b.Key), cmp.Compare(a.Time, b.Time), cmp.Compare(a.Offset, b.Offset))
			if event.Less(a, b) != (want < 0) || event.Less(b, a) != (want > 0) {
				t.Errorf("%#v, %#v: Less = %v, %v", a, b, event.Less(a, b), event.Less(b, a))
			}
		}
	}
}
