package batch_test

import (
	"fmt"
	"math/rand/v2"
	"slices"
	"testing"

	"headrace/api"
	"headrace/batch"
	"headrace/catalog"
	"headrace/files"
	"headrace/sorter"
)

// filled is a store of a log's archive that has so many bytes of room left, and the files that it had.
func filled(t *testing.T, log []api.Event, left int) (*files.Store, *catalog.Catalog, []string) {
	t.Helper()
	s := newStore(t, bigRoom)
	cat := archived(t, s, log, 2, 30)
	put(t, s, "filled", make([]byte, bigRoom-s.Used()-left))
	return s, cat, s.List()
}

// P15.1: Sort's error: a store without room for a run; no file of one is left, and with room it is done.
func TestErrFull(t *testing.T) {
	log := someEvents(rand.New(rand.NewPCG(15, 30)), 60, 2, 0, 50)
	for _, p := range []sorter.Plan{{Hold: 60, Fan: 2}, {Hold: 7, Fan: 2}, {Hold: 1, Fan: 4}} {
		done, full := 0, 0
		for left := 0; left < 6000; left += 1 + left/10 {
			s, cat, before := filled(t, log, left)
			what := fmt.Sprintf("%+v, %d bytes of room", p, left)
			if _, e := batch.Run(s, cat, upTo(session(5), 60), p); e == api.OK {
				ran(t, what, s, cat, upTo(session(5), 60), p, log)
				done++
			} else {
				checkError(t, what, s, cat, upTo(session(5), 60), p, api.ErrFull)
				full++
				if done > 0 {
					t.Errorf("%s: ErrFull, where there is more room than was enough", what)
				}
				check(t, "Delete", s.Delete("filled"), api.OK)
				ran(t, what+", and then more", s, cat, upTo(session(5), 60), p, log)
				put(t, s, "filled", nil)
			}
			if !slices.Equal(s.List(), before) {
				t.Errorf("%s: files %q", what, s.List())
			}
		}
		if done == 0 || full == 0 {
			t.Errorf("%+v: %d times done, %d times not", p, done, full)
		}
	}
}

// P15.1: as many files of runs as a store may have, and one more.
func TestMaxFiles(t *testing.T) {
	const others = 2 // the catalog, and its segment
	n := api.MaxFiles - others
	log := someEvents(rand.New(rand.NewPCG(15, 31)), n+1, 2, 0, 500)
	s := newStore(t, bigRoom)
	cat := archived(t, s, log, 2)
	p := sorter.Plan{Hold: 1, Fan: 2}
	ran(t, "MaxFiles", s, cat, upTo(tumbling(10), uint64(n)), p, log)
	checkError(t, "one more", s, cat, upTo(tumbling(10), uint64(n+1)), p, api.ErrFull)
	if l := s.List(); len(l) != others {
		t.Errorf("files %q", l)
	}
	ran(t, "two of each run", s, cat, upTo(tumbling(10), uint64(n+1)), sorter.Plan{Hold: 2, Fan: 2}, log)
}

// P15.1: an archive alone in a store that has just room for it: up to 0 nothing is sorted.
func TestNoRoomNoEvents(t *testing.T) {
	log := someEvents(rand.New(rand.NewPCG(15, 32)), 60, 2, 0, 50)
	s, cat, before := filled(t, log, 0)
	ran(t, "no room, Cut 0", s, cat, session(5), plan, log)
	checkError(t, "no room, Cut 1", s, cat, upTo(session(5), 1), plan, api.ErrFull)
	if !slices.Equal(s.List(), before) {
		t.Errorf("files %q", s.List())
	}
}

// fallen is a store in which the power went off in the n-th operation of Run; false: there are fewer.
func fallen(t *testing.T, log []api.Event, c api.Config, p sorter.Plan, n int) (*files.Store, bool) {
	t.Helper()
	s := newStore(t, bigRoom)
	cat := archived(t, s, log, 2, 30)
	put(t, s, "run.3", []byte("left"))
	put(t, s, "run.x", []byte("left"))
	check(t, "Arm", s.Arm(n), api.OK)
	b, e := batch.Run(s, cat, c, p)
	if e == api.OK {
		if !s.On() {
			t.Fatalf("off in operation %d: Run answers OK", n)
		}
		return s, false
	}
	what := fmt.Sprintf("off in operation %d", n)
	check(t, what, e, api.ErrCrash)
	if !isZero(b) || s.On() {
		t.Fatalf("%s: %d groups, %d; the power is on: %v", what, len(b.Groups), b.N, s.On())
	}
	checkError(t, what+", without power", s, cat, upTo(c, 1), p, api.ErrCrash)
	return s, true
}

// P15.1, P6: whatever operation the power goes off in, and whatever is kept: behind the Restart it comes to what it is, no file is left, and the archive is as it was.
func TestFalls(t *testing.T) {
	log := someEvents(rand.New(rand.NewPCG(15, 33)), 40, 2, 0, 50)
	for _, x := range []struct {
		cut uint64
		p   sorter.Plan
	}{
		{0, sorter.Plan{Hold: 1, Fan: 2}},
		{1, sorter.Plan{Hold: 1, Fan: 2}},
		{40, sorter.Plan{Hold: 64, Fan: 2}},
		{40, sorter.Plan{Hold: 5, Fan: 3}},
		{29, sorter.Plan{Hold: 1, Fan: api.MaxFan}},
	} {
		c := upTo(session(5), x.cut)
		falls := 0
		for n := 1; ; n++ {
			if _, fell := fallen(t, log, c, x.p, n); !fell {
				break
			}
			falls++
			for _, keep := range []int{0, 1, 10, 50, -1} {
				s, _ := fallen(t, log, c, x.p, n)
				check(t, "Restart", s.Restart(slices.Repeat([]int{keep}, 600)), api.OK)
				what := fmt.Sprintf("Cut %d, %+v, off in operation %d, %d bytes kept", x.cut, x.p, n, keep)
				cat, e := catalog.Open(s, 2)
				check(t, what+": catalog.Open", e, api.OK)
				if cat.To() != uint64(len(log)) {
					t.Fatalf("%s: the archive is up to %d", what, cat.To())
				}
				ran(t, what, s, cat, c, x.p, log)
				ran(t, what+", all", s, cat, upTo(tumbling(7), 40), plan, log)
				if l := s.List(); !slices.Equal(l, []string{"cat", "seg.0.30", "seg.30.40"}) {
					t.Fatalf("%s: files %q", what, l)
				}
			}
		}
		// Two files that were left go; each first run is laid, and goes.
		if fewest := 2 + 2*((int(x.cut)+x.p.Hold-1)/x.p.Hold); falls < fewest {
			t.Errorf("Cut %d, %+v: %d operations, not %d", x.cut, x.p, falls, fewest)
		}
	}
}

// P15.1: the catalog that was opened ahead of a fall goes on behind it.
func TestFallsWithoutOpen(t *testing.T) {
	log := someEvents(rand.New(rand.NewPCG(15, 34)), 40, 2, 0, 50)
	s := newStore(t, bigRoom)
	cat := archived(t, s, log, 2, 30)
	c, p := upTo(sliding(10, 3), 40), sorter.Plan{Hold: 6, Fan: 2}
	for n := 1; ; n++ {
		check(t, "Arm", s.Arm(n), api.OK)
		if _, e := batch.Run(s, cat, c, p); e == api.OK {
			break
		}
		checkError(t, "without power", s, cat, c, p, api.ErrCrash)
		check(t, "Restart", s.Restart([]int{1, 2, 3, 4, 5}), api.OK)
		ran(t, fmt.Sprintf("off in operation %d", n), s, cat, c, p, log)
	}
}

// P15.1: without room, and with power that goes off at any time, as well in what is cleaned up then.
func TestFallsWithoutRoom(t *testing.T) {
	log := someEvents(rand.New(rand.NewPCG(15, 35)), 60, 2, 0, 50)
	c, p := upTo(session(5), 60), sorter.Plan{Hold: 4, Fan: 2}
	falls := 0
	for n := 1; ; n++ {
		s, cat, before := filled(t, log, 700)
		check(t, "Arm", s.Arm(n), api.OK)
		_, e := batch.Run(s, cat, c, p)
		if e == api.ErrFull {
			break
		}
		falls++
		check(t, fmt.Sprintf("off in operation %d", n), e, api.ErrCrash)
		check(t, "Restart", s.Restart(slices.Repeat([]int{-1}, 600)), api.OK)
		checkError(t, "behind it", s, cat, c, p, api.ErrFull)
		if !slices.Equal(s.List(), before) {
			t.Errorf("off in operation %d: files %q", n, s.List())
		}
	}
	if falls < 4 {
		t.Errorf("%d operations", falls)
	}
}

// P7: a segment of which a bit was turned is told, if it is below the cut; what is answered in spite of it is right.
func TestTurnedBits(t *testing.T) {
	log := someEvents(rand.New(rand.NewPCG(15, 36)), 100, 2, 0, 50)
	s := newStore(t, bigRoom)
	cat := archived(t, s, log, 2, 30)
	for i, name := range []string{"seg.0.30", "seg.30.100"} {
		p, e := s.Read(name)
		check(t, "Read", e, api.OK)
		for at := range p {
			bit := 8*at + at%8
			check(t, "Spoil", s.Spoil(name, bit), api.OK)
			for _, cut := range []uint64{1, 30, 31, 94, 100} {
				c := upTo(session(5), cut)
				b, e := batch.Run(s, cat, c, plan)
				what := fmt.Sprintf("%s, bit %d, Cut %d", name, bit, cut)
				switch {
				case e == api.OK:
					checkBoot(t, what, b, c, log[:cut])
				case e != api.ErrSum && e != api.ErrForm || !isZero(b):
					t.Fatalf("%s: %d groups, error %d", what, len(b.Groups), e)
				}
				if e == api.OK && (cut == 100 || i == 0) || e != api.OK && i == 1 && cut <= 30 {
					t.Fatalf("%s: error %d", what, e)
				}
			}
			check(t, "Spoil", s.Spoil(name, bit), api.OK)
		}
	}
	ran(t, "turned back", s, cat, upTo(session(5), 100), plan, log)
}

// P7: a catalog of which a bit was turned isn't one; one that was opened ahead of it tells, or answers what is right.
func TestTurnedBitsOfCatalog(t *testing.T) {
	log := someEvents(rand.New(rand.NewPCG(15, 37)), 60, 2, 0, 50)
	s := newStore(t, bigRoom)
	ahead := archived(t, s, log, 2, 30)
	p, e := s.Read("cat")
	check(t, "Read", e, api.OK)
	for bit := range 8 * len(p) {
		check(t, "Spoil", s.Spoil("cat", bit), api.OK)
		cat, e := catalog.Open(s, 2)
		if e != api.ErrSum && e != api.ErrForm {
			t.Fatalf("bit %d: catalog.Open: error %d", bit, e)
		}
		c := upTo(tumbling(10), 60)
		checkError(t, "a spoilt catalog", s, cat, c, plan, api.ErrNone)
		if b, e := batch.Run(s, ahead, c, plan); e == api.OK {
			checkBoot(t, "opened ahead", b, c, log)
		} else if !isZero(b) {
			t.Fatalf("bit %d: error %d beside %d groups", bit, e, len(b.Groups))
		}
		check(t, "Spoil", s.Spoil("cat", bit), api.OK)
	}
}
