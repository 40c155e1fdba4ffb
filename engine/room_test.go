package engine_test

import (
	"fmt"
	"maps"
	"math"
	"math/rand/v2"
	"slices"
	"testing"

	"headrace/api"
	"headrace/engine"
	"headrace/files"
	"headrace/sorter"
)

// smallRoom is room enough for what these tests need, so that what fills the rest is soon laid.
const smallRoom = 1 << 14

// tinyLog is some log whose sums and keys take few bytes, so that each number of bytes can be gone through.
func tinyLog(r *rand.Rand, n int) []api.Event {
	l := someLog(r, n, 1)
	for i := range l {
		l[i].Key = l[i].Key[:min(len(l[i].Key), 2)]
		l[i].Val = float64(i) * math.SmallestNonzeroFloat64
	}
	return l
}

// fill leaves so much room in a store, by a file of an other's.
func fill(t *testing.T, s *files.Store, room, left int) {
	t.Helper()
	put(t, s, "big", make([]byte, room-s.Used()-left))
}

// empty takes that file away.
func empty(t *testing.T, s *files.Store) {
	t.Helper()
	check(t, "Delete", s.Delete("big"), api.OK)
}

// sizeOf is how many bytes the files of a commit have that a Commit lays.
func sizeOf(m *model) int {
	n := 0
	for name, p := range m.files() {
		// The changes of the commits ahead are there already.
		last := fmt.Sprintf("out.%d", len(m.commits))
		if name == "man" || name == last || name == fmt.Sprintf("state.%d", len(m.commits)) {
			n += len(p)
		}
	}
	return n
}

// P19.1: each number of bytes of room for Open: with too few for the archive's runs, for the state, for the changes it is ErrFull, beside no engine, and no file has changed; with room it is opened.
func TestRoomOfOpen(t *testing.T) {
	r := rand.New(rand.NewPCG(197, 1))
	long := logOf(slices.Repeat([]api.Event{at(3, "a", 1.5), at(4, "a", 2)}, 20)...)
	for i, c := range []api.Config{tumbling(api.MaxSize), with(sliding(16, 1), -1, 0, 1), session(1)} {
		log := [][]api.Event{long, tinyLog(r, 12), tinyLog(r, 12)}[i]
		for _, cut := range []int{0, 1, len(log)} {
			c := upTo(c, cut)
			m := newModel(t, c, log[:cut])
			m.commit()
			most := 0
			for room := 0; ; room++ {
				s := newStore(t, smallRoom)
				archive(t, s, log, 1, 5)
				fill(t, s, smallRoom, room)
				what := fmt.Sprintf("%+v, %d bytes of room", c, room)
				x, e := engine.Open(s, c, sorter.Plan{Hold: 3, Fan: 2})
				if e == api.OK {
					most = room
					checkEngine(t, what, x, m)
					break
				}
				checkNotOpened(t, what, s, c, sorter.Plan{Hold: 3, Fan: 2}, api.ErrFull)
				empty(t, s)
				x = opened(t, what, s, c)
				checkEngine(t, what, x, m)
				checkFiles(t, what, s, m)
			}
			// Of few long windows the runs take more than the commit does; of no archive, and of many windows, they don't.
			if size := sizeOf(m); most < size || most > size && i > 0 || cut == 0 && most > size || cut == len(log) && i == 0 && most == size {
				t.Errorf("%+v: %d bytes of room are enough; the commit has %d", c, most, size)
			}
		}
	}
}

// P19.1, P19.2: each number of bytes of room for Commit: with too few it is ErrFull, all that waited still waits, nothing that is committed has changed; more may come, and with room all is committed.
func TestRoomOfCommit(t *testing.T) {
	r := rand.New(rand.NewPCG(197, 2))
	for _, c := range []api.Config{with(tumbling(5), 9, 0, 1), with(sliding(8, 2), -1, 0, 1), session(3)} {
		c := upTo(c, 6)
		log := tinyLog(r, 20)
		for room := 0; ; room++ {
			s := newStore(t, smallRoom)
			x, m := both(t, c, s, c, log, 5)
			for _, e := range log[6:14] {
				checkIn(t, c, x, m, e)
			}
			fill(t, s, smallRoom, room)
			before, what := filesOf(t, s), fmt.Sprintf("%+v, %d bytes of room", c, room)
			e := x.Commit()
			ahead := *m
			ahead.commit()
			if need := sizeOf(&ahead); (e == api.OK) != (room >= need) {
				t.Fatalf("%s, of %d: error %d", what, need, e)
			}
			if e == api.OK {
				m.commit()
				checkEngine(t, what, x, m)
				break
			}
			check(t, what, e, api.ErrFull)
			for range 2 {
				check(t, what, x.Commit(), api.ErrFull)
				checkEngine(t, what, x, m)
				if !maps.Equal(filesOf(t, s), before) {
					t.Fatalf("%s: files %q", what, s.List())
				}
			}
			// What is committed is there, and what isn't goes on.
			checkCommitted(t, what, s, x, c)
			checkIn(t, what, x, m, log[14])
			checkIn(t, what, x, m, log[14])
			checkEngine(t, what, x, m)
			if room%2 == 0 {
				checkEnd(t, what, x, m)
				check(t, what, x.In(log[15]), api.ErrState)
				check(t, what, x.End(), api.ErrState)
			}
			check(t, what, x.Commit(), api.ErrFull)
			checkEngine(t, what, x, m)
			empty(t, s)
			checkCommit(t, what, x, m)
			checkEngine(t, what, x, m)
			checkFiles(t, what, s, m)
			checkEngine(t, what, opened(t, what, s, c), m)
		}
	}
}

// checkCommitted looks that an engine on a copy of the store is what the last commit was.
func checkCommitted(t *testing.T, what string, s *files.Store, x *engine.Engine, c api.Config) {
	t.Helper()
	o := opened(t, what, copied(t, s, 2*smallRoom), c)
	if o.Commits() != x.Commits() || !same(o.Ledger().All(), x.Ledger().All()) || len(o.Waiting()) > 0 {
		t.Fatalf("%s: %d commits, %s", what, o.Commits(), briefly(o.Ledger().All()))
	}
}

// P19.2: as many files as there may be, but for some: a commit takes three more.
func TestNumberOfFiles(t *testing.T) {
	for left := range 6 {
		s := newStore(t, smallRoom)
		x, m := both(t, "Open", s, tumbling(10), nil)
		checkIn(t, left, x, m, at(3, "a", 1))
		for i := range api.MaxFiles - left - len(s.List()) {
			put(t, s, fmt.Sprintf("f%d", i), nil)
		}
		if left < 3 {
			check(t, left, x.Commit(), api.ErrFull)
			checkEngine(t, left, x, m)
			for i := range 3 - left {
				check(t, "Delete", s.Delete(fmt.Sprintf("f%d", i)), api.OK)
			}
		}
		checkCommit(t, left, x, m)
		checkEngine(t, left, x, m)
		checkEngine(t, left, opened(t, left, s, tumbling(10)), m)
	}
}

// P19.1: more runs than there may be files.
func TestNoRoomForRuns(t *testing.T) {
	log := someLog(rand.New(rand.NewPCG(197, 3)), 600, 1)
	c := upTo(tumbling(1000), 600)
	s := newStore(t, bigRoom)
	archive(t, s, log, 1)
	checkNotOpened(t, "runs of one event", s, c, sorter.Plan{Hold: 1, Fan: 2}, api.ErrFull)
	x := opened(t, "runs of four", s, c)
	m := newModel(t, c, log)
	m.commit()
	checkEngine(t, "runs of four", x, m)
	checkFiles(t, "runs of four", s, m)
}

// P19.2, P19.3: without room, and with power that goes off in each operation, as well in what is cleaned up then.
func TestFallsWithoutRoom(t *testing.T) {
	log := tinyLog(rand.New(rand.NewPCG(197, 4)), 20)
	c := upTo(with(tumbling(5), 9, 0, 1), 6)
	full, crashed := 0, 0
	for room, need := 0, 1; room < need; room += 1 + need/200 {
		for n := 1; ; n++ {
			s := newStore(t, smallRoom)
			x, m := both(t, c, s, c, log, 5)
			for _, e := range log[6:14] {
				checkIn(t, c, x, m, e)
			}
			ahead := *m
			ahead.commit()
			need = sizeOf(&ahead)
			fill(t, s, smallRoom, room)
			what := fmt.Sprintf("%d bytes of room, off in operation %d", room, n)
			check(t, "Arm", s.Arm(n), api.OK)
			e := x.Commit()
			if s.On() {
				check(t, what, e, api.ErrFull)
				checkEngine(t, what, x, m)
				full++
				break
			}
			crashed++
			check(t, what, e, api.ErrCrash)
			checkEngine(t, what, x, m)
			check(t, "Restart", s.Restart([]int{-1, 3, n}), api.OK)
			check(t, what, x.Commit(), api.ErrCrash)
			empty(t, s)
			l := &life{c: c, log: log, sizes: []int{5}, plan: plan, every: 4, order: inOrder, kept: []done{{what: 'c'}}}
			l.pending = []done{{what: 'c'}}
			for _, e := range log[6:14] {
				l.pending = append(l.pending, done{'i', e})
			}
			l.pending = append(l.pending, done{what: 'c'})
			x, m = l.try(t, what, s)
			l.checkNeverFallen(t, what, x, m)
		}
	}
	if full < 20 || crashed < 100 {
		t.Errorf("%d times full, %d crashed", full, crashed)
	}
}
