package sorter_test

import (
	"fmt"
	"slices"
	"strconv"
	"testing"

	"headrace/api"
	"headrace/files"
	"headrace/sorter"
)

// keeps are how many bytes that aren't durable may stay, the same of each file.
var keeps = []int{0, 1, 2, 9, 30, 60, 1000, -1}

// keepsOf are keeps, fewer of very many events.
func keepsOf(l []api.Event) []int {
	if len(l) > 1000 {
		return []int{100, -1}
	}
	return keeps
}

// unlike is how much may stay, of each file as much as it may be.
func unlike(n int) []int {
	l := make([]int, 2*n)
	for i := range l {
		l[i] = (i*i+n)*13%200 - 20
	}
	return l
}

func kept(n int) []int {
	return slices.Repeat([]int{n}, 600)
}

// sorts are events and plans, of which each operation may be that in which the power goes off.
func sorts() []struct {
	l []api.Event
	p sorter.Plan
} {
	return []struct {
		l []api.Event
		p sorter.Plan
	}{
		{nil, sorter.Plan{Hold: 1, Fan: 2}},
		{eventsOf(1, 1), sorter.Plan{Hold: 1, Fan: 2}},
		{eventsOf(1, 10), sorter.Plan{Hold: 2, Fan: 2}},
		{eventsOf(1, 40), sorter.Plan{Hold: 5, Fan: 3}},
		{eventsOf(1, 17), sorter.Plan{Hold: 1, Fan: api.MaxFan}},
		{alike(30), sorter.Plan{Hold: 4, Fan: 2}},
		{eventsOf(1, 5000), sorter.Plan{Hold: 2500, Fan: 2}},
	}
}

// fallen is a store in which the power went off in the n-th operation of a Sort; false: there are fewer.
func fallen(t *testing.T, l []api.Event, p sorter.Plan, n int, left bool) (*files.Store, bool) {
	t.Helper()
	s := newStore(t, bigRoom)
	putOthers(t, s)
	if left {
		putLeftovers(t, s)
	}
	check(t, "Arm", s.Arm(n), api.OK)
	got, first, passes, e := sorter.Sort(s, l, api.MaxParts, p)
	if e == api.OK && s.On() {
		return s, false
	}
	if e != api.ErrCrash || s.On() || len(got) != 0 || first != 0 || passes != 0 {
		t.Fatalf("off in operation %d: Sort = %d events, %d, %d, error %d", n, len(got), first, passes, e)
	}
	checkError(t, "without power", s, l, api.MaxParts, p, api.ErrCrash)
	return s, true
}

// P10.1, P6: whatever operation the power goes off in, and whatever is kept, a Sort behind the Restart does all, and nothing is left.
func TestFalls(t *testing.T) {
	for _, x := range sorts() {
		for _, left := range []bool{false, true} {
			falls := 0
			for n := 1; ; n++ {
				if _, fell := fallen(t, x.l, x.p, n, left); !fell {
					break
				}
				falls++
				for _, keep := range keepsOf(x.l) {
					s, _ := fallen(t, x.l, x.p, n, left)
					check(t, "Restart", s.Restart(kept(keep)), api.OK)
					what := fmt.Sprintf("off in operation %d, %d bytes kept", n, keep)
					sorted(t, what, s, x.l, api.MaxParts, x.p)
					checkOthers(t, what, s)
				}
			}
			// Each of the first runs is laid, and goes.
			if first, _ := counted(len(x.l), x.p); falls < 2*first {
				t.Errorf("%s: %d operations", planText(x.p), falls)
			}
		}
	}
}

// P10.1: another Sort, of other events and by another plan, is as it would be without the fall.
func TestFallsThenAnother(t *testing.T) {
	x := sorts()[3]
	for n := 1; ; n++ {
		s, fell := fallen(t, x.l, x.p, n, true)
		if !fell {
			return
		}
		check(t, "Restart", s.Restart(unlike(n)), api.OK)
		sorted(t, "another", s, eventsOf(9, 33), api.MaxParts, sorter.Plan{Hold: 3, Fan: 4})
		checkOthers(t, "another", s)
	}
}

// P10.1: a Sort behind a Restart may be cut, too, again and again.
func TestFallsAgain(t *testing.T) {
	x := sorts()[2]
	s := newStore(t, bigRoom)
	putOthers(t, s)
	for n := 1; ; n++ {
		check(t, "Arm", s.Arm(n), api.OK)
		_, _, _, e := sorter.Sort(s, x.l, api.MaxParts, x.p)
		if e == api.OK {
			break
		}
		check(t, "Sort", e, api.ErrCrash)
		check(t, "Restart", s.Restart(kept(-1)), api.OK)
	}
	check(t, "Arm", s.Arm(0), api.OK)
	sorted(t, "again and again", s, x.l, api.MaxParts, x.p)
	checkOthers(t, "again and again", s)
}

// P10.1: how it is sorted is seen where the power goes off: the first runs in run.0, run.1 .., Hold events each; then no event is in two files, since each file goes when it is read.
func TestRunsInFiles(t *testing.T) {
	for _, x := range sorts() {
		first, _ := counted(len(x.l), x.p)
		for n := 1; ; n++ {
			s, fell := fallen(t, x.l, x.p, n, true)
			if !fell {
				break
			}
			check(t, "Restart", s.Restart(kept(-1)), api.OK)
			if n <= len(leftovers) {
				continue
			}
			runs := runsOf(t, s)
			if laid := n - len(leftovers); laid <= first {
				checkFirstRuns(t, runs, x.l, x.p.Hold, laid)
			}
			var all []api.Event
			for _, run := range runs {
				all = append(all, run...)
			}
			if !withinOnce(all, x.l) {
				t.Fatalf("off in operation %d: %d events in files, of %d", n, len(all), len(x.l))
			}
		}
	}
}

// P10.1: of five runs, two at once, the last one is left over alone in two passes, and stays in its file.
func TestOneAloneStays(t *testing.T) {
	l := eventsOf(1, 10)
	const firstRuns, ofAPass = 5, 2 + 1
	for n := firstRuns; n <= firstRuns+3*ofAPass; n++ {
		s, _ := fallen(t, l, sorter.Plan{Hold: 2, Fan: 2}, n, false)
		check(t, "Restart", s.Restart(kept(-1)), api.OK)
		if run := runsOf(t, s)["run.4"]; !same(run, inOrder(l[8:])) {
			t.Errorf("off in operation %d: run.4 is %+v", n, run)
		}
	}
}

// checkFirstRuns looks that there are so many runs, each of its events.
func checkFirstRuns(t *testing.T, runs map[string][]api.Event, l []api.Event, hold, laid int) {
	t.Helper()
	if len(runs) != laid {
		t.Fatalf("%d runs, not %d", len(runs), laid)
	}
	for i := range laid {
		want := inOrder(l[i*hold : min(i*hold+hold, len(l))])
		if run := runs["run."+strconv.Itoa(i)]; !same(run, want) {
			t.Fatalf("run.%d: %+v, not %+v", i, run, want)
		}
	}
}

// withinOnce: is each of these events one of l, and none there more often?
func withinOnce(some, l []api.Event) bool {
	left := map[api.Event]int{}
	for _, e := range l {
		left[e]++
	}
	for _, e := range some {
		left[e]--
		if left[e] < 0 {
			return false
		}
	}
	return true
}

// P10.1: Clean, too, may be cut in each operation: behind the Restart the next one does all.
func TestFallsInClean(t *testing.T) {
	for n := 1; ; n++ {
		s := newStore(t, bigRoom)
		putOthers(t, s)
		putLeftovers(t, s)
		check(t, "Arm", s.Arm(n), api.OK)
		e := sorter.Clean(s)
		if e == api.OK {
			if n != len(leftovers)+1 {
				t.Errorf("Clean of %d files: %d operations", len(leftovers), n-1)
			}
			checkOthers(t, "Clean", s)
			return
		}
		check(t, "Clean", e, api.ErrCrash)
		check(t, "Clean without power", sorter.Clean(s), api.ErrCrash)
		check(t, "Restart", s.Restart(kept(n-2)), api.OK)
		check(t, "Clean behind it", sorter.Clean(s), api.OK)
		checkOthers(t, "Clean behind it", s)
	}
}

// P10.1: without room, and with power that goes off at any time, as well in what is cleaned up then.
func TestFallsWithoutRoom(t *testing.T) {
	for _, x := range []struct {
		l    []api.Event
		p    sorter.Plan
		room int
	}{
		{eventsOf(2, 20), sorter.Plan{Hold: 2, Fan: 2}, roomOf(eventsOf(2, 20), 2) / 2},
		{growing(400), sorter.Plan{Hold: 200, Fan: 2}, roomOf(growing(400), 200)},
	} {
		falls := 0
		for n := 1; ; n++ {
			s := newStore(t, x.room)
			check(t, "Arm", s.Arm(n), api.OK)
			_, _, _, e := sorter.Sort(s, x.l, api.MaxParts, x.p)
			if e == api.ErrFull {
				if l := s.List(); len(l) != 0 {
					t.Errorf("files %q", l)
				}
				break
			}
			falls++
			check(t, fmt.Sprintf("off in operation %d", n), e, api.ErrCrash)
			check(t, "Restart", s.Restart(kept(-1)), api.OK)
			checkError(t, "behind it", s, x.l, api.MaxParts, x.p, api.ErrFull)
			if l := s.List(); len(l) != 0 {
				t.Errorf("off in operation %d: files %q", n, l)
			}
		}
		if falls < 4 {
			t.Errorf("%d operations", falls)
		}
	}
}

// P10.1: what is refused is told ahead of the power that goes off in what is cleaned up.
func TestRefusedWithoutPower(t *testing.T) {
	p := sorter.Plan{Hold: 1, Fan: 2}
	for n := 1; n <= len(leftovers); n++ {
		for _, x := range []struct {
			l    []api.Event
			p    sorter.Plan
			want api.Errno
		}{
			{eventsOf(1, 3), sorter.Plan{Hold: 1, Fan: 1}, api.ErrArg},
			{[]api.Event{{Part: -1}}, p, api.ErrForm},
		} {
			s := newStore(t, bigRoom)
			putLeftovers(t, s)
			check(t, "Arm", s.Arm(n), api.OK)
			checkError(t, "refused", s, x.l, api.MaxParts, x.p, x.want)
			if s.On() {
				t.Error("the power is on")
			}
			checkError(t, "refused without power", s, x.l, api.MaxParts, x.p, x.want)
		}
	}
}
