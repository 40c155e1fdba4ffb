package sorter_test

import (
	"bytes"
	"cmp"
	"fmt"
	"math"
	"math/rand/v2"
	"slices"
	"strings"
	"testing"

	"headrace/api"
	"headrace/event"
	"headrace/files"
	"headrace/sorter"
)

const bigRoom = api.MaxStore

// inOrder is what is to be answered, told apart from the program: of events that stand alike the first one stays first.
func inOrder(l []api.Event) []api.Event {
	sorted := slices.Clone(l)
	slices.SortStableFunc(sorted, func(a, b api.Event) int {
		return cmp.Or(strings.Compare(a.Key, b.Key), cmp.Compare(a.Time, b.Time), cmp.Compare(a.Offset, b.Offset))
	})
	return sorted
}

// counted is how many runs and passes are to be answered of n events.
func counted(n int, p sorter.Plan) (int, int) {
	first := (n + p.Hold - 1) / p.Hold
	passes := 0
	for left := first; left > 1; left = (left + p.Fan - 1) / p.Fan {
		passes++
	}
	return first, passes
}

// bits are those of a value, of which all NaNs are one.
func bits(x float64) uint64 {
	if math.IsNaN(x) {
		return 0x7ff8000000000000
	}
	return math.Float64bits(x)
}

// same: are they the same events, to the bits of their values?
func same(a, b []api.Event) bool {
	return slices.EqualFunc(a, b, func(a, b api.Event) bool {
		x, y := bits(a.Val), bits(b.Val)
		a.Val, b.Val = 0, 0
		return a == b && x == y
	})
}

func newStore(t *testing.T, room int) *files.Store {
	t.Helper()
	s, e := files.New(room)
	check(t, "files.New", e, api.OK)
	return s
}

func check(t *testing.T, what string, got, want api.Errno) {
	t.Helper()
	if got != want {
		t.Fatalf("%s: error %d, not %d", what, got, want)
	}
}

// put makes a durable file of these bytes.
func put(t *testing.T, s *files.Store, name string, p []byte) {
	t.Helper()
	check(t, "Append "+name, s.Append(name, p), api.OK)
	check(t, "Sync "+name, s.Sync(name), api.OK)
}

// others are names of files that aren't runs', which stay.
var others = []string{".run.0", "0", "cat", "ru.n", "run", "run0", "runs.0", "seg.0.9", "srun.0", "z"}

// leftovers are names of files that begin with run., which go.
var leftovers = []string{"run.", "run..", "run.0", "run.00", "run.1", "run.10", "run.7.tmp", "run.a", "run.run.0", "run.zzzzzzzzzzzzzzzzzzzzzzzzzzzz"}

func putOthers(t *testing.T, s *files.Store) {
	t.Helper()
	for _, name := range others {
		put(t, s, name, []byte("of "+name))
	}
}

func putLeftovers(t *testing.T, s *files.Store) {
	t.Helper()
	for i, name := range leftovers {
		put(t, s, name, event.Lay(nil, eventsOf(uint64(i), i)))
	}
}

// checkOthers looks that a store has the other files alone, as they were.
func checkOthers(t *testing.T, what string, s *files.Store) {
	t.Helper()
	if l := s.List(); !slices.Equal(l, others) {
		t.Fatalf("%s: files %q", what, l)
	}
	for _, name := range others {
		if p, e := s.Read(name); !bytes.Equal(p, []byte("of "+name)) || e != api.OK {
			t.Fatalf("%s: the file %s is %q, error %d", what, name, p, e)
		}
	}
}

// sorted is what Sort answers, which must be what is to be answered of these events; they must stay as they are.
func sorted(t *testing.T, what string, s *files.Store, l []api.Event, parts int, p sorter.Plan) []api.Event {
	t.Helper()
	before := slices.Clone(l)
	got, first, passes, e := sorter.Sort(s, l, parts, p)
	if e != api.OK {
		t.Fatalf("%s: Sort of %d events, %+v: error %d", what, len(l), p, e)
	}
	if !same(got, inOrder(before)) {
		t.Fatalf("%s: Sort of %d events, %+v: not in their order", what, len(l), p)
	}
	if wantFirst, wantPasses := counted(len(l), p); first != wantFirst || passes != wantPasses {
		t.Fatalf("%s: Sort of %d events, %+v: %d runs, %d passes; not %d, %d", what, len(l), p, first, passes, wantFirst, wantPasses)
	}
	if !same(l, before) {
		t.Fatalf("%s: what was handed in has changed", what)
	}
	return got
}

// checkSort holds Sort, on a store with other files, against what is to be answered.
func checkSort(t *testing.T, what string, l []api.Event, parts int, p sorter.Plan) {
	t.Helper()
	s := newStore(t, bigRoom)
	putOthers(t, s)
	sorted(t, what, s, l, parts, p)
	checkOthers(t, what, s)
}

// checkError looks that Sort answers this error, and noughts beside it.
func checkError(t *testing.T, what string, s *files.Store, l []api.Event, parts int, p sorter.Plan, want api.Errno) {
	t.Helper()
	got, first, passes, e := sorter.Sort(s, l, parts, p)
	if len(got) != 0 || first != 0 || passes != 0 || e != want {
		t.Fatalf("%s: Sort = %d events, %d, %d, error %d; not error %d", what, len(got), first, passes, e, want)
	}
}

// eventsOf are n events of MaxParts partitions, of which many stand alike, told apart by their values.
func eventsOf(seed uint64, n int) []api.Event {
	r := rand.New(rand.NewPCG(seed, uint64(n)))
	keys := []string{"", "a", "ab", "b", "\x00", "\xff", strings.Repeat("k", api.MaxKey)}
	l := make([]api.Event, n)
	for i := range l {
		l[i] = api.Event{
			Offset: r.Uint64N(3),
			Part:   r.IntN(api.MaxParts),
			Time:   r.Int64N(3) - 1,
			Key:    keys[r.IntN(len(keys))],
			Val:    float64(i) - 0.5,
		}
		if r.IntN(3) == 0 {
			l[i].Offset, l[i].Time = r.Uint64N(api.MaxOffset), r.Int64N(2*api.MaxTime+1)-api.MaxTime
		}
	}
	return l
}

// alike are n events that stand alike, told apart by their values and partitions.
func alike(n int) []api.Event {
	l := make([]api.Event, n)
	for i := range l {
		l[i] = api.Event{Offset: 5, Part: i % api.MaxParts, Time: -7, Key: "k", Val: float64(n - i)}
	}
	return l
}

// plans are plans at and about all limits.
func plans() []sorter.Plan {
	var l []sorter.Plan
	for _, hold := range []int{1, 2, 3, 10, 16, 64, api.MaxRows} {
		for _, fan := range []int{2, 3, 4, 7, api.MaxFan - 1, api.MaxFan} {
			l = append(l, sorter.Plan{Hold: hold, Fan: fan})
		}
	}
	return l
}

func planText(p sorter.Plan) string {
	return fmt.Sprintf("Hold %d, Fan %d", p.Hold, p.Fan)
}
