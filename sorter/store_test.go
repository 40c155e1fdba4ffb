package sorter_test

import (
	"fmt"
	"strconv"
	"strings"
	"testing"

	"headrace/api"
	"headrace/event"
	"headrace/files"
	"headrace/sorter"
)

// P10.1: Clean: files whose names begin with run. go, all others stay.
func TestClean(t *testing.T) {
	check(t, "no store", sorter.Clean(nil), api.ErrNone)
	s := newStore(t, bigRoom)
	check(t, "no files", sorter.Clean(s), api.OK)
	putOthers(t, s)
	check(t, "no runs", sorter.Clean(s), api.OK)
	checkOthers(t, "no runs", s)
	putLeftovers(t, s)
	check(t, "runs", sorter.Clean(s), api.OK)
	checkOthers(t, "runs", s)
	check(t, "again", sorter.Clean(s), api.OK)
	checkOthers(t, "again", s)
}

// P10.1: as many files as there may be, all of runs.
func TestCleanMaxFiles(t *testing.T) {
	s := newStore(t, bigRoom)
	for i := range api.MaxFiles {
		put(t, s, "run."+strconv.Itoa(i), nil)
	}
	check(t, "Clean", sorter.Clean(s), api.OK)
	if l := s.List(); len(l) != 0 {
		t.Errorf("files %q", l)
	}
}

// P10.1: Sort cleans first, so that runs that were left behind play no part, and no room is lost to them.
func TestSortCleansFirst(t *testing.T) {
	for _, n := range []int{0, 1, 2, 9} {
		s := newStore(t, bigRoom)
		putOthers(t, s)
		putLeftovers(t, s)
		sorted(t, "leftovers", s, eventsOf(1, n), api.MaxParts, sorter.Plan{Hold: 2, Fan: 2})
		checkOthers(t, "leftovers", s)
	}
	s := newStore(t, 5000)
	put(t, s, "run.x", make([]byte, 5000))
	sorted(t, "no room", s, eventsOf(1, 20), api.MaxParts, sorter.Plan{Hold: 2, Fan: 2})
	for i := range api.MaxFiles {
		put(t, s, "run."+strconv.Itoa(i), nil)
	}
	sorted(t, "no room for a file", s, eventsOf(1, 20), api.MaxParts, sorter.Plan{Hold: 2, Fan: 2})
}

// P10.1: beside an error, too, they go.
func TestErrorsClean(t *testing.T) {
	p := sorter.Plan{Hold: 1, Fan: 2}
	for _, x := range []struct {
		l     []api.Event
		parts int
		p     sorter.Plan
		want  api.Errno
	}{
		{eventsOf(1, 3), api.MaxParts, sorter.Plan{}, api.ErrArg},
		{nil, 0, p, api.ErrArg},
		{[]api.Event{{}, {Part: 1}}, 1, p, api.ErrForm},
		{eventsOf(1, api.MaxFiles), api.MaxParts, p, api.ErrFull},
	} {
		s := newStore(t, bigRoom)
		putOthers(t, s)
		putLeftovers(t, s)
		checkError(t, "leftovers", s, x.l, x.parts, x.p, x.want)
		checkOthers(t, fmt.Sprintf("error %d", x.want), s)
	}
}

// P10.1: a run is a file, of which a store has no more than MaxFiles.
func TestMaxFiles(t *testing.T) {
	p := sorter.Plan{Hold: 2, Fan: api.MaxFan}
	s := newStore(t, bigRoom)
	sorted(t, "MaxFiles runs", s, eventsOf(2, 2*api.MaxFiles), api.MaxParts, p)
	checkError(t, "one more", s, eventsOf(2, 2*api.MaxFiles+1), api.MaxParts, p, api.ErrFull)
	if l := s.List(); len(l) != 0 {
		t.Errorf("files %q", l)
	}
	putOthers(t, s)
	n := api.MaxFiles - len(others)
	sorted(t, "beside other files", s, eventsOf(2, 2*n), api.MaxParts, p)
	checkError(t, "one more", s, eventsOf(2, 2*n+1), api.MaxParts, p, api.ErrFull)
	checkOthers(t, "one more", s)
}

// growing are events whose runs take fewer bytes than what they are merged into: by halves of one time each, which stand by turns when they are merged.
func growing(n int) []api.Event {
	l := make([]api.Event, n)
	for i := range l {
		half := i / (n / 2)
		l[i] = api.Event{
			Offset: uint64(i),
			Time:   int64(half) * api.MaxTime,
			Key:    fmt.Sprintf("%04d", 2*(i%(n/2))+half),
		}
	}
	return l
}

// roomOf is how many bytes files of the runs take, as long as none is merged.
func roomOf(l []api.Event, hold int) int {
	n := 0
	for at := 0; at < len(l); at += hold {
		n += len(event.Lay(nil, inOrder(l[at:min(at+hold, len(l))])))
	}
	return n
}

// usedBy is how many bytes are put.
func usedBy(t *testing.T, put func(t *testing.T, s *files.Store)) int {
	t.Helper()
	s := newStore(t, bigRoom)
	put(t, s)
	return s.Used()
}

// P10.1: without room for a run, or for what runs are merged into, it is ErrFull, no file of a run stays, and with room it is done.
func TestRoom(t *testing.T) {
	for _, x := range []struct {
		l []api.Event
		p sorter.Plan
	}{
		{eventsOf(3, 1), sorter.Plan{Hold: 1, Fan: 2}},
		{eventsOf(3, 30), sorter.Plan{Hold: 30, Fan: 2}},
		{eventsOf(3, 30), sorter.Plan{Hold: 4, Fan: 2}},
		{eventsOf(3, 30), sorter.Plan{Hold: 1, Fan: 5}},
		{growing(100), sorter.Plan{Hold: 50, Fan: 2}},
		{growing(100), sorter.Plan{Hold: 25, Fan: 2}},
	} {
		need, done := roomOf(x.l, x.p.Hold), 0
		for room := 1; room <= 2*need+2000; room += 1 + room/40 {
			s := newStore(t, usedBy(t, putOthers)+room)
			putOthers(t, s)
			put(t, s, "run.left", make([]byte, room))
			_, _, _, e := sorter.Sort(s, x.l, api.MaxParts, x.p)
			if e != api.ErrFull && (e != api.OK || room < need) || e == api.ErrFull && done > 0 {
				t.Fatalf("%s, %d bytes of room, %d for the first runs: error %d", planText(x.p), room, need, e)
			}
			if e == api.OK {
				done++
				sorted(t, "room", s, x.l, api.MaxParts, x.p)
			} else {
				checkError(t, "no room", s, x.l, api.MaxParts, x.p, api.ErrFull)
			}
			checkOthers(t, "room", s)
		}
		if done == 0 {
			t.Errorf("%s: never done", planText(x.p))
		}
	}
}

// P10.1: there is room for the first runs, but not for what they are merged into.
func TestNoRoomToMerge(t *testing.T) {
	l, p := growing(400), sorter.Plan{Hold: 200, Fan: 2}
	s := newStore(t, roomOf(l, p.Hold))
	before := s.Ops()
	checkError(t, "no room to merge", s, l, 1, p, api.ErrFull)
	if n := s.Ops() - before; n < 4 || len(s.List()) != 0 {
		t.Errorf("%d operations, files %q", n, s.List())
	}
}

// runsOf are the files of runs that a store has: the events of each, which must be in their order.
func runsOf(t *testing.T, s *files.Store) map[string][]api.Event {
	t.Helper()
	runs := map[string][]api.Event{}
	for _, name := range s.List() {
		if !strings.HasPrefix(name, "run.") {
			continue
		}
		p, e := s.Read(name)
		check(t, "Read", e, api.OK)
		var run []api.Event
		for at := 0; at < len(p); {
			l, behind, e := event.Read(p, at, api.MaxParts)
			check(t, name, e, api.OK)
			run, at = append(run, l...), behind
		}
		if !same(run, inOrder(run)) {
			t.Fatalf("%s isn't in its order", name)
		}
		runs[name] = run
	}
	return runs
}
