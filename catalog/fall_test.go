package catalog_test

import (
	"fmt"
	"math/rand/v2"
	"slices"
	"strings"
	"testing"

	"headrace/api"
	"headrace/catalog"
	"headrace/files"
)

// call is a call that changes a catalog, and what it makes of the model.
type call struct {
	name  string
	do    func(c *catalog.Catalog) api.Errno
	after func(m model) model
}

func calls() []call {
	more := eventsFrom(21, 7, 2)
	return []call{
		{"Seal", func(c *catalog.Catalog) api.Errno { return c.Seal(more) }, func(m model) model { return m.sealed(more) }},
		{"Compact(0)", func(c *catalog.Catalog) api.Errno { return c.Compact(0) }, func(m model) model { return m.compacted(0) }},
		{"Compact(1)", func(c *catalog.Catalog) api.Errno { return c.Compact(1) }, func(m model) model { return m.compacted(1) }},
	}
}

// keeps are how many bytes that aren't durable may stay, the same of each file.
var keeps = []int{0, 1, 2, 13, 40, 100, -1}

func kept(n int) []int {
	return slices.Repeat([]int{n}, 20)
}

// checkOneOf holds a catalog that was opened against two models, one of which it must be, and tells which.
func checkOneOf(t *testing.T, what string, s *files.Store, parts int, before, after model) model {
	t.Helper()
	c := opened(t, s, parts)
	m := before
	if slices.Equal(c.Entries(), after.entries()) {
		m = after
	}
	checkAll(t, what, s, c, m)
	return m
}

// fallen tells a store and a catalog of three segments that fell in the n-th operation of a call; false: the call takes fewer.
func fallen(t *testing.T, x call, n int) (*files.Store, *catalog.Catalog, bool) {
	t.Helper()
	s := newStore(t, bigRoom)
	c := sealed(t, s, 2, stretches(2, 10, 4, 7))
	check(t, "Arm", s.Arm(n), api.OK)
	e := x.do(c)
	if e == api.OK && s.On() {
		check(t, "Arm", s.Arm(0), api.OK)
		return s, c, false
	}
	check(t, x.name, e, api.ErrCrash)
	return s, c, true
}

// P8.3: whatever operation the power goes off in, and whatever is kept, a call is done as a whole, or not at all.
func TestFalls(t *testing.T) {
	before := model{2, stretches(2, 10, 4, 7)}
	for _, x := range calls() {
		falls, done, undone := 0, 0, 0
		for n := 1; ; n++ {
			_, _, fell := fallen(t, x, n)
			if !fell {
				break
			}
			falls++
			for _, keep := range keeps {
				s, _, _ := fallen(t, x, n)
				check(t, "Restart", s.Restart(kept(keep)), api.OK)
				what := fmt.Sprintf("%s, off in operation %d, %d bytes kept", x.name, n, keep)
				m := checkOneOf(t, what, s, 2, before, x.after(before))
				if len(m.segs) == len(before.segs) {
					undone++
				} else {
					done++
				}
				// What it has come to can be gone on with.
				c, more := opened(t, s, 2), eventsFrom(uint64(len(slices.Concat(m.segs...))), 9, 2)
				check(t, what+": Seal", c.Seal(more), api.OK)
				m = m.sealed(more)
				check(t, what+": Compact", c.Compact(0), api.OK)
				checkAll(t, what+", and more", s, c, m.compacted(0))
			}
		}
		if falls < 5 || undone == 0 || strings.HasPrefix(x.name, "Compact") && done == 0 {
			t.Errorf("%s: %d operations, %d times done, %d not", x.name, falls, done, undone)
		}
	}
}

// P8.3: the same, if the catalog that was cut goes on behind the Restart, without being opened.
func TestFallsWithoutOpen(t *testing.T) {
	before := model{2, stretches(2, 10, 4, 7)}
	for _, x := range calls() {
		for n := 1; ; n++ {
			_, _, fell := fallen(t, x, n)
			if !fell {
				break
			}
			for _, keep := range keeps {
				s, c, _ := fallen(t, x, n)
				check(t, "Restart", s.Restart(kept(keep)), api.OK)
				what := fmt.Sprintf("%s, off in operation %d, %d bytes kept", x.name, n, keep)
				m := before
				if slices.Equal(c.Entries(), x.after(before).entries()) {
					m = x.after(before)
				} else {
					check(t, what+": again", x.do(c), api.OK)
					m = x.after(before)
				}
				more := eventsFrom(c.To(), 9, 2)
				check(t, what+": Seal", c.Seal(more), api.OK)
				checkAll(t, what, s, c, m.sealed(more))
			}
		}
	}
}

// P8.3: Open, too, may be cut, again and again.
func TestFallsInOpen(t *testing.T) {
	before := model{2, stretches(2, 10, 4, 7)}
	for _, x := range calls() {
		for n := 1; ; n++ {
			_, _, fell := fallen(t, x, n)
			if !fell {
				break
			}
			for k := 1; ; k++ {
				s, _, _ := fallen(t, x, n)
				check(t, "Restart", s.Restart(kept(-1)), api.OK)
				put(t, s, "seg.90.99", nil)
				check(t, "Arm", s.Arm(k), api.OK)
				c, e := catalog.Open(s, 2)
				if e == api.OK {
					break
				}
				if c != nil || e != api.ErrCrash || s.On() {
					t.Fatalf("Open = %v, error %d", c, e)
				}
				checkOpenError(t, "without power", s, 2, api.ErrCrash)
				check(t, "Restart", s.Restart(nil), api.OK)
				checkOneOf(t, fmt.Sprintf("%s, off in %d, Open, off in %d", x.name, n, k), s, 2, before, x.after(before))
			}
		}
	}
}

// P8.3: the first segment of all.
func TestFallsAtFirst(t *testing.T) {
	first := eventsFrom(0, 70, 1)
	for n := 1; ; n++ {
		s := newStore(t, bigRoom)
		c := opened(t, s, 1)
		check(t, "Arm", s.Arm(n), api.OK)
		if e := c.Seal(first); e == api.OK {
			return
		}
		for _, keep := range keeps {
			check(t, "Restart", s.Restart(kept(keep)), api.OK)
			m := checkOneOf(t, fmt.Sprintf("off in operation %d", n), s, 1, model{parts: 1}, model{1, [][]api.Event{first}})
			if len(m.segs) != 0 {
				t.Errorf("off in operation %d: it was done", n)
			}
		}
	}
}

// P8.3: without room, and with power that goes off in what is done then.
func TestFallsWithoutRoom(t *testing.T) {
	before := model{2, stretches(2, 10, 4, 7)}
	big, _ := filled(t, bigRoom, 2, before.segs, 0)
	for _, x := range calls() {
		for left := 0; left < 400; left += 9 {
			for n := 1; n < 9; n++ {
				s, c := filled(t, big.Used()+1000, 2, before.segs, 0)
				put(t, s, "other", make([]byte, 1000-left))
				check(t, "Arm", s.Arm(n), api.OK)
				e := x.do(c)
				if e == api.OK || e == api.ErrFull {
					check(t, "Arm", s.Arm(0), api.OK)
				}
				what := fmt.Sprintf("%s, %d bytes of room, off in %d: error %d", x.name, left, n, e)
				if e != api.ErrCrash && (!s.On() || slices.Contains(s.List(), "cat.tmp") || len(s.List()) != len(c.Entries())+2) {
					t.Fatalf("%s: files %q", what, s.List())
				}
				check(t, "Restart", s.Restart(kept(-1)), api.OK)
				check(t, "Delete", s.Delete("other"), api.OK)
				m := checkOneOf(t, what, s, 2, before, x.after(before))
				if e == api.ErrFull && len(m.segs) != len(before.segs) || e == api.OK && len(m.segs) == len(before.segs) {
					t.Fatalf("%s: %d segments", what, len(m.segs))
				}
			}
		}
	}
}

// P8.1, P8.2, P8.3: whatever is done, with falls anywhere.
func TestAnySteps(t *testing.T) {
	for seed := range uint64(20) {
		r := rand.New(rand.NewPCG(seed, 8))
		parts := 1 + r.IntN(api.MaxParts)
		s := newStore(t, 3000+r.IntN(8000))
		m := model{parts: parts}
		c := opened(t, s, parts)
		for range 60 {
			if r.IntN(3) == 0 {
				check(t, "Arm", s.Arm(1+r.IntN(9)), api.OK)
			}
			after, e := m, api.OK
			if len(m.segs) > 1 && r.IntN(2) == 0 {
				i := r.IntN(len(m.segs) - 1)
				after, e = m.compacted(i), c.Compact(i)
			} else {
				l := eventsFrom(c.To(), 1+r.IntN(90), parts)
				after, e = m.sealed(l), c.Seal(l)
			}
			switch e {
			case api.OK:
				m = after
			case api.ErrCrash:
				keep := make([]int, r.IntN(9))
				for i := range keep {
					keep[i] = r.IntN(300) - 20
				}
				check(t, "Restart", s.Restart(keep), api.OK)
				m = checkOneOf(t, fmt.Sprintf("seed %d", seed), s, parts, m, after)
				c = opened(t, s, parts)
			case api.ErrFull:
			default:
				t.Fatalf("seed %d: error %d", seed, e)
			}
			check(t, "Arm", s.Arm(0), api.OK)
			checkAll(t, fmt.Sprintf("seed %d", seed), s, c, m)
		}
	}
}
