package stream_test

import (
	"fmt"
	"maps"
	"math/rand/v2"
	"slices"
	"testing"

	"headrace/api"
	"headrace/ledger"
	"headrace/whole"
)

// malformed is an event that isn't one of a log of so many partitions.
func malformed(r *rand.Rand, e api.Event, parts int) api.Event {
	switch r.IntN(5) {
	case 0:
		e.Part = parts
	case 1:
		e.Part = -1
	case 2:
		e.Time = api.MaxTime + 1
	case 3:
		e.Key = longest + "x"
	case 4:
		e.Offset = api.MaxOffset
	}
	return e
}

// P17.1, P17.2, P17.3: whatever comes, in whatever order, an operator does as the model does.
func TestRuns(t *testing.T) {
	var late, twice, backs uint64
	for seed := range uint64(350) {
		r := rand.New(rand.NewPCG(17, seed))
		c := anyConfig(r)
		log := someLog(r, r.IntN(100), c.Parts)
		cut := r.IntN(len(log)+1) / (1 + r.IntN(4))
		o, m := newBoth(t, c, log[:cut])
		often := 1 + r.IntN(10)
		for i, e := range someOrder(r, log[cut:]) {
			if r.IntN(20) == 0 {
				e = malformed(r, e, c.Parts)
			}
			if cut > 0 && r.IntN(20) == 0 {
				e = log[r.IntN(cut)]
			}
			what := fmt.Sprintf("seed %d, %+v, event %d: %+v", seed, c, i, e)
			want := m.in(e)
			check(t, what, o.In(e), want)
			if want == api.ErrTwice {
				twice++
			}
			if r.IntN(often) == 0 {
				checkOut(t, what, o, m)
			}
			if r.IntN(5) == 0 {
				checkState(t, what, o, m)
			}
		}
		what := fmt.Sprintf("seed %d, %+v", seed, c)
		for range 2 {
			check(t, what, o.End(), m.end())
			checkOut(t, what, o, m)
			checkState(t, what, o, m)
		}
		for _, n := range m.backs {
			backs += n
		}
		late += m.late
	}
	if late < 500 || twice < 250 || backs < 1000 {
		t.Errorf("%d late, %d twice, %d taken back: too few", late, twice, backs)
	}
}

// told are the panes that end at or below a mark.
func told(l []api.Pane, mark int64) []api.Pane {
	return slices.DeleteFunc(slices.Clone(l), func(p api.Pane) bool { return p.W.End > mark })
}

// P17.3, P5, P4: a ledger takes all that is told; its view is at any time all of whole.Panes up to the mark, and behind End all of them; marks never fall, and nothing is told above them.
func TestByTheBook(t *testing.T) {
	for seed := range uint64(300) {
		r := rand.New(rand.NewPCG(18, seed))
		c := anyConfig(r)
		log := someLog(r, 80, c.Parts)
		cut := r.IntN(len(log))
		o, m := newBoth(t, c, log[:cut])
		counted := slices.Clone(log[:cut])
		var g ledger.Ledger
		below, there := o.Mark()
		look := func(what string) {
			t.Helper()
			mark, ok := o.Mark()
			if there && (!ok || mark < below) {
				t.Fatalf("%s: the mark falls from %d to %d, %v", what, below, mark, ok)
			}
			below, there = mark, ok
			out := o.Out()
			for _, x := range out {
				if x.Put && (!ok || x.P.W.End > mark) && !o.Ended() {
					t.Fatalf("%s: too early at %d, %v: %s", what, mark, ok, briefly(out))
				}
			}
			check(t, what+": Add of "+briefly(out), g.Add(out), api.OK)
			want := whole.Panes(o.Config(), counted)
			if !o.Ended() {
				if !ok {
					mark = -2 * api.MaxTime
				}
				want = told(want, mark)
			}
			if !slices.EqualFunc(g.View(), want, samePane) {
				t.Fatalf("%s: there is %+v, not %+v", what, g.View(), want)
			}
		}
		look("New")
		for i, e := range someOrder(r, log[cut:]) {
			late := m.isLate(e.Time)
			if o.In(e) == api.OK {
				m.came = append(m.came, e)
				if !late {
					counted = append(counted, e)
				}
			}
			look(fmt.Sprintf("seed %d, %+v, event %d", seed, c, i))
		}
		check(t, "End", o.End(), api.OK)
		look("End")
	}
}

// P17.3: where nothing is ever late, all orders come to the same panes behind End.
func TestAnyOrder(t *testing.T) {
	for seed := range uint64(40) {
		r := rand.New(rand.NewPCG(19, seed))
		c := anyConfig(r)
		c.Late = -1 - r.Int64N(5)
		log := someLog(r, 60, c.Parts)
		cut := r.IntN(30)
		for range 10 {
			o, _ := newBoth(t, c, log[:cut])
			tail := slices.Clone(log[cut:])
			r.Shuffle(len(tail), func(i, j int) { tail[i], tail[j] = tail[j], tail[i] })
			for _, e := range tail {
				check(t, "In", o.In(e), api.OK)
			}
			check(t, "End", o.End(), api.OK)
			var g ledger.Ledger
			check(t, "Add", g.Add(o.Out()), api.OK)
			if want := whole.Panes(o.Config(), log); !slices.EqualFunc(g.View(), want, samePane) || o.Late() > 0 {
				t.Fatalf("seed %d, %+v: %+v, not %+v", seed, c, g.View(), want)
			}
		}
	}
}

// P2: the same calls answer the same, however often Out is asked: often, seldom, and twice in a row.
func TestOut(t *testing.T) {
	for seed := range uint64(60) {
		r := rand.New(rand.NewPCG(20, seed))
		c := anyConfig(r)
		log := someLog(r, 80, c.Parts)
		often, m := newBoth(t, c, log[:20])
		seldom, _ := newBoth(t, c, log[:20])
		all := often.Out()
		for _, e := range someOrder(r, log[20:]) {
			if a, b := often.In(e), seldom.In(e); a != b {
				t.Fatalf("seed %d: errors %d and %d", seed, a, b)
			}
			m.in(e)
			all = append(all, often.Out()...)
			if l := often.Out(); len(l) > 0 {
				t.Fatalf("seed %d: twice in a row: %s", seed, briefly(l))
			}
			if string(often.Save()) != string(seldom.Save()) {
				t.Fatalf("seed %d: Out plays a part in Save", seed)
			}
		}
		often.End()
		seldom.End()
		m.end()
		all = append(all, often.Out()...)
		if l := seldom.Out(); !sameChanges(l, all) || !sameChanges(l, m.out) {
			t.Fatalf("seed %d: seldom %s\noften %s\nnot %s", seed, briefly(l), briefly(all), briefly(m.out))
		}
		if l := seldom.Out(); len(l) > 0 {
			t.Fatalf("seed %d: twice in a row: %s", seed, briefly(l))
		}
	}
}

// P17.1, P17.2: events at the limits of times, keys and offsets, in windows of all sizes.
func TestLimits(t *testing.T) {
	var events []api.Event
	for _, at := range []int64{-api.MaxTime, -api.MaxTime + 1, -1, 0, api.MaxTime - 1, api.MaxTime} {
		for _, key := range []string{"", longest} {
			events = append(events, api.Event{Part: len(events) % 2, Time: at, Key: key, Val: float64(len(events))})
		}
	}
	offsets := []uint64{0, 1, 63, 64, api.MaxOffset - 2, api.MaxOffset - 1, 1 << 39, 2, 3, 65, 62, 1 << 20}
	for i := range events {
		events[i].Offset = offsets[i]
	}
	for i, c := range configs() {
		c.Parts = 2
		for seed := range uint64(4) {
			o, m := newBoth(t, c, nil)
			r := rand.New(rand.NewPCG(21, seed))
			order := slices.Clone(events)
			r.Shuffle(len(order), func(i, j int) { order[i], order[j] = order[j], order[i] })
			for _, e := range order {
				what := fmt.Sprintf("config %d, %+v", i, e)
				check(t, what, o.In(e), m.in(e))
				checkOut(t, what, o, m)
				checkState(t, what, o, m)
				o = loaded(t, o)
			}
			for _, offset := range append(offsets, 4, 61, 66, 1<<39-1, 1<<39+1, api.MaxOffset-3, api.MaxOffset) {
				if o.Seen(offset) != m.seen(offset) {
					t.Errorf("Seen(%d) = %v", offset, o.Seen(offset))
				}
			}
			check(t, "End", o.End(), m.end())
			checkOut(t, "End", o, m)
		}
	}
}

// P17.1: offsets that come in any order have come, and no others have.
func TestSeen(t *testing.T) {
	for seed := range uint64(50) {
		r := rand.New(rand.NewPCG(22, seed))
		c := anyConfig(r)
		c.Cut = r.Uint64N(50)
		o := newZero(t, c)
		came := map[uint64]int{}
		for range 200 {
			offset := r.Uint64N(150)
			e := api.Event{Offset: offset, Time: r.Int64N(100), Val: 1}
			want := api.OK
			if offset < c.Cut {
				want = api.ErrStale
			} else if came[offset] > 0 {
				want = api.ErrTwice
			}
			check(t, fmt.Sprintf("seed %d, offset %d", seed, offset), o.In(e), want)
			if want == api.OK {
				came[offset]++
			}
			for offset := range uint64(152) {
				if o.Seen(offset) != (came[offset] > 0) {
					t.Fatalf("seed %d: Seen(%d) = %v behind %v", seed, offset, o.Seen(offset), slices.Sorted(maps.Keys(came)))
				}
			}
			if r.IntN(10) == 0 {
				o = loaded(t, o)
			}
		}
	}
}
