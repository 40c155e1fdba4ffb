package batch_test

import (
	"fmt"
	"math"
	"math/rand/v2"
	"slices"
	"strconv"
	"testing"

	"headrace/agg"
	"headrace/api"
	"headrace/event"
	"headrace/mark"
	"headrace/sorter"
)

// P15.1: the chapter's example: up to 0 there are no groups, of an archive with events and of one without.
func TestExample(t *testing.T) {
	log := someEvents(rand.New(rand.NewPCG(15, 1)), 100, 2, 0, 50)
	for _, c := range configs() {
		for _, l := range [][]api.Event{nil, log} {
			s := newStore(t, bigRoom)
			b := ran(t, "Cut 0", s, archived(t, s, l, 2), c, plan, l)
			marks, _ := mark.New(2)
			if len(b.Groups) != 0 || b.Marks != marks || b.N != 0 {
				t.Errorf("%+v: %v, %v, %d", c, briefly(b.Groups), b.Marks, b.N)
			}
		}
	}
}

// shortLog is a log whose groups are written out.
func shortLog() []api.Event {
	return logOf(
		at(0, 8, "a", 2),
		at(1, 1, "a", 1.5),
		at(0, 20, "a", -1),
		at(0, 9, "b", 4),
		at(1, 4, "a", 1e300),
		at(0, -3, "", 7),
		at(1, 12, "a", -1e300),
	)
}

// P15.1: groups, marks and how many events, written out, up to each cut.
func TestWrittenOut(t *testing.T) {
	type marks struct {
		t    [2]int64
		seen [2]bool
	}
	wantMarks := []marks{
		{},
		{[2]int64{8, 0}, [2]bool{true, false}},
		{[2]int64{8, 1}, [2]bool{true, true}},
		{[2]int64{20, 1}, [2]bool{true, true}},
		{[2]int64{20, 1}, [2]bool{true, true}},
		{[2]int64{20, 4}, [2]bool{true, true}},
		{[2]int64{20, 4}, [2]bool{true, true}},
		{[2]int64{20, 12}, [2]bool{true, true}},
	}
	for _, x := range []struct {
		c    api.Config
		want []string
	}{
		{tumbling(10), []string{
			`[]`,
			`["a" 0 10 1]`,
			`["a" 0 10 2]`,
			`["a" 0 10 2 "a" 20 30 1]`,
			`["a" 0 10 2 "a" 20 30 1 "b" 0 10 1]`,
			`["a" 0 10 3 "a" 20 30 1 "b" 0 10 1]`,
			`["" -10 0 1 "a" 0 10 3 "a" 20 30 1 "b" 0 10 1]`,
			`["" -10 0 1 "a" 0 10 3 "a" 10 20 1 "a" 20 30 1 "b" 0 10 1]`,
		}},
		{sliding(10, 5), []string{
			`[]`,
			`["a" 0 10 1 "a" 5 15 1]`,
			`["a" -5 5 1 "a" 0 10 2 "a" 5 15 1]`,
			`["a" -5 5 1 "a" 0 10 2 "a" 5 15 1 "a" 15 25 1 "a" 20 30 1]`,
			`["a" -5 5 1 "a" 0 10 2 "a" 5 15 1 "a" 15 25 1 "a" 20 30 1 "b" 0 10 1 "b" 5 15 1]`,
			`["a" -5 5 2 "a" 0 10 3 "a" 5 15 1 "a" 15 25 1 "a" 20 30 1 "b" 0 10 1 "b" 5 15 1]`,
			`["" -10 0 1 "" -5 5 1 "a" -5 5 2 "a" 0 10 3 "a" 5 15 1 "a" 15 25 1 "a" 20 30 1 "b" 0 10 1 "b" 5 15 1]`,
			`["" -10 0 1 "" -5 5 1 "a" -5 5 2 "a" 0 10 3 "a" 5 15 2 "a" 10 20 1 "a" 15 25 1 "a" 20 30 1 "b" 0 10 1 "b" 5 15 1]`,
		}},
		{session(5), []string{
			`[]`,
			`["a" 8 13 1]`,
			`["a" 1 6 1 "a" 8 13 1]`,
			`["a" 1 6 1 "a" 8 13 1 "a" 20 25 1]`,
			`["a" 1 6 1 "a" 8 13 1 "a" 20 25 1 "b" 9 14 1]`,
			`["a" 1 13 3 "a" 20 25 1 "b" 9 14 1]`,
			`["" -3 2 1 "a" 1 13 3 "a" 20 25 1 "b" 9 14 1]`,
			`["" -3 2 1 "a" 1 17 4 "a" 20 25 1 "b" 9 14 1]`,
		}},
	} {
		log := shortLog()
		s := newStore(t, bigRoom)
		cat := archived(t, s, log, 2, 3, 2)
		for cut, want := range x.want {
			b := ran(t, fmt.Sprintf("Cut %d", cut), s, cat, upTo(x.c, uint64(cut)), plan, log)
			if got := fmt.Sprint(briefly(b.Groups)); got != want || b.N != cut {
				t.Errorf("%+v, Cut %d: %s, not %s", x.c, cut, got, want)
			}
			for part, seen := range wantMarks[cut].seen {
				if got, ok := b.Marks.Of(part); got != wantMarks[cut].t[part] || ok != seen {
					t.Errorf("Cut %d: the partition %d is seen up to %d, %v", cut, part, got, ok)
				}
			}
		}
		if x.c.Kind == api.Session {
			b := ran(t, "all", s, cat, upTo(x.c, 7), plan, log)
			if a := b.Groups[1].S.Value(); !agg.Same(a, api.Agg{Count: 4, Sum: 3.5, Min: -1e300, Max: 1e300}) {
				t.Errorf("told is %+v", a)
			}
		}
	}
}

// P15.1: events at offsets just below the cut have come, those at it haven't: each cut of segments of several chunks.
func TestCuts(t *testing.T) {
	log := someEvents(rand.New(rand.NewPCG(15, 2)), 300, 2, 0, 60)
	s := newStore(t, bigRoom)
	cat := archived(t, s, log, 2, 10, 64, 1, 130)
	for cut := range uint64(len(log) + 1) {
		c := configs()[cut%uint64(len(configs()))]
		ran(t, fmt.Sprintf("Cut %d", cut), s, cat, upTo(c, cut), plan, log)
	}
}

// P15.1: whatever the plan is, as many files as it takes, it comes to the same.
func TestPlans(t *testing.T) {
	log := someEvents(rand.New(rand.NewPCG(15, 3)), 230, 2, 100, 40)
	s := newStore(t, bigRoom)
	cat := archived(t, s, log, 2, 100)
	for _, p := range plans() {
		for _, c := range configs() {
			ran(t, fmt.Sprintf("%+v", p), s, cat, upTo(c, uint64(len(log))), p, log)
		}
	}
}

// P15.1: however the archive is parted into segments, and compacted, it comes to the same.
func TestSegments(t *testing.T) {
	log := someEvents(rand.New(rand.NewPCG(15, 4)), 200, 2, -100, 80)
	for _, sizes := range [][]int{nil, {1}, {199}, {64, 64, 64}, {63, 65, 1}, slices.Repeat([]int{10}, 20), slices.Repeat([]int{1}, 200)} {
		s := newStore(t, bigRoom)
		cat := archived(t, s, log, 2, sizes...)
		for len(cat.Entries()) > 1 {
			c := configs()[len(cat.Entries())%len(configs())]
			ran(t, fmt.Sprintf("%d segments", len(cat.Entries())), s, cat, upTo(c, 200), plan, log)
			ran(t, fmt.Sprintf("%d segments", len(cat.Entries())), s, cat, upTo(c, 131), plan, log)
			check(t, "Compact", cat.Compact(len(cat.Entries())/2-1), api.OK)
		}
		for _, c := range configs() {
			ran(t, "one segment", s, cat, upTo(c, 200), plan, log)
		}
	}
}

// P15.1: a partition of which nothing is below the cut isn't seen, whatever its number is.
func TestMarks(t *testing.T) {
	for parts := 1; parts <= api.MaxParts; parts++ {
		var log []api.Event
		for part := range parts {
			log = append(log, at(part, int64(-5-part), "k", 1), at(part, int64(-9+part), "a", 1))
		}
		log = logOf(log...)
		s := newStore(t, bigRoom)
		cat := archived(t, s, log, parts)
		c := session(5)
		c.Parts = parts
		for cut := range uint64(len(log) + 1) {
			b := ran(t, fmt.Sprintf("%d partitions, Cut %d", parts, cut), s, cat, upTo(c, cut), plan, log)
			want, _ := mark.New(parts)
			for _, e := range log[:cut] {
				want = want.See(e.Part, e.Time)
			}
			if b.Marks != want {
				t.Errorf("%d partitions, Cut %d: marks %v, not %v", parts, cut, b.Marks, want)
			}
		}
	}
}

// P15.1: the greatest time is found wherever it stands: by offset, by key, in a run, below 0.
func TestGreatestTime(t *testing.T) {
	for place := range 20 {
		for _, key := range []string{"", "a", "z"} {
			for _, greatest := range []int64{-1, 0, 1, api.MaxTime} {
				var log []api.Event
				for i := range 20 {
					log = append(log, at(0, -api.MaxTime+int64(i*7%20), "k", 1))
				}
				log[place].Time, log[place].Key = greatest, key
				log = logOf(log...)
				s := newStore(t, bigRoom)
				b := ran(t, "the greatest time", s, archived(t, s, log, 2), upTo(tumbling(10), 20), sorter.Plan{Hold: 3, Fan: 2}, log)
				if x, ok := b.Marks.Of(0); x != greatest || !ok {
					t.Fatalf("%q at %d: seen up to %d, %v", key, place, x, ok)
				}
				if x, ok := b.Marks.Low(); x != 0 || ok {
					t.Fatalf("Low = %d, %v", x, ok)
				}
			}
		}
	}
}

// P15.1: times at -MaxTime and MaxTime, sizes up to MaxSize, a time in MaxShare windows.
func TestGreat(t *testing.T) {
	r := rand.New(rand.NewPCG(15, 5))
	for _, around := range []int64{-api.MaxTime, 0, api.MaxTime} {
		for _, within := range []int64{2, 100, api.MaxSize} {
			log := someEvents(r, 60, 2, around, within)
			s := newStore(t, bigRoom)
			cat := archived(t, s, log, 2, 13)
			for _, c := range configs() {
				ran(t, fmt.Sprintf("around %d", around), s, cat, upTo(c, 60), plan, log)
			}
		}
	}
}

// P3, P15.1: sums have no error, wherever their values stand in segments and runs.
func TestSums(t *testing.T) {
	great := math.MaxFloat64
	for _, x := range []struct {
		l    []float64
		want api.Agg
	}{
		{[]float64{1e300, 1, -1e300}, api.Agg{Count: 3, Sum: 1, Min: -1e300, Max: 1e300}},
		{[]float64{great, great, 7, -great, -great}, api.Agg{Count: 5, Sum: 7, Min: -great, Max: great}},
		{[]float64{great, great}, api.Agg{Count: 2, Sum: math.Inf(1), Over: true, Min: great, Max: great}},
		{[]float64{math.Copysign(0, -1)}, api.Agg{Count: 1, Sum: math.Copysign(0, -1), Min: math.Copysign(0, -1), Max: math.Copysign(0, -1)}},
		{[]float64{math.NaN(), 2}, api.Agg{Count: 2, Sum: math.NaN(), Min: 2, Max: math.NaN()}},
		{[]float64{math.Inf(1), math.Inf(-1)}, api.Agg{Count: 2, Sum: math.NaN(), Min: math.Inf(-1), Max: math.Inf(1)}},
	} {
		for _, c := range []api.Config{tumbling(10), sliding(10, 4), session(10)} {
			var log []api.Event
			for _, val := range x.l {
				log = append(log, at(0, 9, "k", val))
			}
			log = logOf(log...)
			s := newStore(t, bigRoom)
			cat := archived(t, s, log, 2, slices.Repeat([]int{1}, len(log))...)
			for _, hold := range []int{1, 2, 100} {
				b := ran(t, "sums", s, cat, upTo(c, uint64(len(log))), sorter.Plan{Hold: hold, Fan: 2}, log)
				for _, g := range b.Groups {
					if !agg.Same(g.S.Value(), x.want) {
						t.Errorf("%v, %+v: %+v, not %+v", x.l, c, g.S.Value(), x.want)
					}
				}
			}
		}
	}
}

// P15.1: a state goes on: with the tail's values more it is what the whole log comes to.
func TestGroupsGoOn(t *testing.T) {
	log := shortLog()
	s := newStore(t, bigRoom)
	cat := archived(t, s, log, 2)
	for cut := range log {
		b := ran(t, "the archive", s, cat, upTo(tumbling(1000), uint64(cut)), plan, log)
		got := map[string]agg.State{}
		for _, g := range b.Groups {
			got[fmt.Sprint(g.Key, g.W)] = g.S
		}
		for _, e := range log[cut:] {
			w := api.Window{Start: 0, End: 1000}
			if e.Time < 0 {
				w = api.Window{Start: -1000, End: 0}
			}
			name := fmt.Sprint(e.Key, w)
			got[name] = got[name].Add(e.Val)
		}
		all := ran(t, "all", s, cat, upTo(tumbling(1000), uint64(len(log))), plan, log)
		if len(got) != len(all.Groups) {
			t.Errorf("Cut %d: %d groups, not %d", cut, len(got), len(all.Groups))
		}
		for _, g := range all.Groups {
			if !agg.Same(got[fmt.Sprint(g.Key, g.W)].Value(), g.S.Value()) {
				t.Errorf("Cut %d: %q %v: told is %+v", cut, g.Key, g.W, got[fmt.Sprint(g.Key, g.W)].Value())
			}
		}
	}
}

// P15.1: lateness and skew play no part: in the archive nothing is late.
func TestWhatPlaysNoPart(t *testing.T) {
	log := someEvents(rand.New(rand.NewPCG(15, 6)), 100, 2, 0, 500)
	s := newStore(t, bigRoom)
	cat := archived(t, s, log, 2)
	for _, c := range configs() {
		for _, late := range []int64{-api.MaxSize, -1, 0, 1, api.MaxSize} {
			for _, skew := range []int64{0, 1, api.MaxSize} {
				c.Late, c.Skew = late, skew
				ran(t, "lateness and skew", s, cat, upTo(c, 100), plan, log)
			}
		}
	}
}

// P15.1, P4: whatever there is.
func TestAny(t *testing.T) {
	r := rand.New(rand.NewPCG(15, 7))
	for n := range 400 {
		parts := 1 + r.IntN(api.MaxParts)
		log := someEvents(r, r.IntN(200), parts, r.Int64N(41)-20, 1+r.Int64N(100))
		s := newStore(t, bigRoom)
		cat := archived(t, s, log, parts, r.IntN(70), r.IntN(70), r.IntN(70))
		for range 3 {
			c := upTo(anyConfig(r, parts), r.Uint64N(uint64(len(log)+1)))
			p := sorter.Plan{Hold: 1 + r.IntN(40), Fan: 2 + r.IntN(api.MaxFan-1)}
			ran(t, fmt.Sprintf("log %d", n), s, cat, c, p, log)
		}
	}
}

// P15.1: more events than a page, a segment and a run may have.
func TestMany(t *testing.T) {
	log := someEvents(rand.New(rand.NewPCG(15, 8)), 3*api.MaxRows, 2, 0, 3000)
	s := newStore(t, bigRoom)
	cat := archived(t, s, log, 2)
	for _, p := range []sorter.Plan{{Hold: api.MaxRows, Fan: 2}, {Hold: 30, Fan: 3}, {Hold: 100, Fan: api.MaxFan}} {
		for _, c := range []api.Config{tumbling(10), sliding(16, 1), session(3)} {
			ran(t, fmt.Sprintf("%+v", p), s, cat, upTo(c, uint64(len(log))), p, log)
			ran(t, fmt.Sprintf("%+v", p), s, cat, upTo(c, uint64(api.MaxRows+1)), p, log)
		}
	}
}

// P15.1: it is sorted by sorter.Sort in the store, as the plan says: as many operations, of the events below the cut.
func TestSortedInTheStore(t *testing.T) {
	log := someEvents(rand.New(rand.NewPCG(15, 9)), 100, 2, 0, 50)
	for _, p := range plans() {
		for _, cut := range []int{0, 1, 17, 99, 100} {
			other := newStore(t, bigRoom)
			_, _, _, e := sorter.Sort(other, log[:cut], 2, p)
			check(t, "Sort", e, api.OK)
			s := newStore(t, bigRoom)
			cat := archived(t, s, log, 2, 30)
			before := s.Ops()
			ran(t, "operations", s, cat, upTo(session(5), uint64(cut)), p, log)
			if n := s.Ops() - before; n != other.Ops() {
				t.Errorf("%+v, Cut %d: %d operations, not %d", p, cut, n, other.Ops())
			}
		}
	}
}

// P15.1: files of runs go, also those that were left behind, and play no part; all other files stay as they were.
func TestFiles(t *testing.T) {
	log := someEvents(rand.New(rand.NewPCG(15, 10)), 90, 2, 0, 50)
	s := newStore(t, bigRoom)
	cat := archived(t, s, log, 2, 30)
	for _, name := range []string{"man", "run", "running", "state.1", "out.1", "z"} {
		put(t, s, name, []byte("of "+name))
	}
	before := told(t, s)
	for _, cut := range []uint64{0, 1, 90} {
		for i := range 40 {
			put(t, s, "run."+strconv.Itoa(i), event.Lay(nil, log[i:i+3]))
		}
		put(t, s, "run.tmp", []byte("any bytes"))
		ran(t, "files", s, cat, upTo(session(5), cut), sorter.Plan{Hold: 3, Fan: 2}, log)
		if told(t, s) != before {
			t.Errorf("Cut %d: files %q", cut, s.List())
		}
	}
}

// P15.1: the archive may stand in another store than that in which it is sorted.
func TestAnotherStore(t *testing.T) {
	log := someEvents(rand.New(rand.NewPCG(15, 11)), 90, 2, 0, 50)
	of, in := newStore(t, bigRoom), newStore(t, bigRoom)
	cat := archived(t, of, log, 2, 30)
	put(t, in, "z", []byte("of z"))
	before, ops, inOps := told(t, of), of.Ops(), in.Ops()
	ran(t, "another store", in, cat, upTo(session(5), 80), plan, log)
	if told(t, of) != before || of.Ops() != ops {
		t.Error("the archive's store has changed")
	}
	if l := in.List(); in.Ops() == inOps || !slices.Equal(l, []string{"z"}) {
		t.Errorf("%d operations, files %q", in.Ops()-inOps, l)
	}
}

// P2: what is answered is the same each time, and may be written over; the store's files are as they were.
func TestMemory(t *testing.T) {
	log := someEvents(rand.New(rand.NewPCG(15, 12)), 90, 2, 0, 50)
	s := newStore(t, bigRoom)
	cat := archived(t, s, log, 2, 30)
	before := told(t, s)
	for _, c := range configs() {
		c.Cut = 90
		first := ran(t, "the first time", s, cat, c, plan, log)
		second := ran(t, "the second time", s, cat, c, plan, log)
		for i := range first.Groups[:cap(first.Groups)] {
			first.Groups[:cap(first.Groups)][i].Key = "written over"
		}
		checkBoot(t, "beside what was written over", second, c, log)
		ran(t, "behind it", s, cat, c, plan, log)
	}
	if told(t, s) != before {
		t.Error("the files have changed")
	}
}

// P2: what was answered stays, whatever is done to the store and the catalog.
func TestAnswerStays(t *testing.T) {
	log := someEvents(rand.New(rand.NewPCG(15, 13)), 90, 2, 0, 50)
	s := newStore(t, bigRoom)
	cat := archived(t, s, log[:60], 2, 30)
	b := ran(t, "at first", s, cat, upTo(session(5), 50), plan, log)
	check(t, "Seal", cat.Seal(log[60:]), api.OK)
	check(t, "Compact", cat.Compact(0), api.OK)
	ran(t, "another one", s, cat, upTo(tumbling(7), 90), plan, log)
	for _, name := range s.List() {
		check(t, "Delete", s.Delete(name), api.OK)
	}
	checkBoot(t, "what was answered", b, upTo(session(5), 50), log[:50])
}

// FuzzRun holds what Run answers of any log, cut and plan against what its events come to.
func FuzzRun(f *testing.F) {
	f.Add(uint64(1), byte(100), byte(2), byte(30), byte(50), byte(16), byte(1))
	f.Add(uint64(2), byte(255), byte(8), byte(1), byte(255), byte(1), byte(14))
	f.Fuzz(func(t *testing.T, seed uint64, n, parts, size, cut, hold, fan byte) {
		r := rand.New(rand.NewPCG(seed, 15))
		of := 1 + int(parts)%api.MaxParts
		log := someEvents(r, int(n), of, r.Int64N(41)-20, 1+r.Int64N(100))
		s := newStore(t, bigRoom)
		cat := archived(t, s, log, of, int(size), int(size)/2)
		c := upTo(anyConfig(r, of), min(uint64(cut), uint64(len(log))))
		ran(t, "any", s, cat, c, sorter.Plan{Hold: 1 + int(hold), Fan: 2 + int(fan)%(api.MaxFan-1)}, log)
	})
}
