package engine_test

import (
	"fmt"
	"math"
	"math/rand/v2"
	"slices"
	"testing"

	"headrace/api"
	"headrace/engine"
	"headrace/files"
	"headrace/sorter"
	"headrace/whole"
)

// fall is one of a store: the power goes off in so many operations, and of each file so many bytes are kept that weren't synced.
type fall struct{ off, keep int }

// done is what was done to an engine: an event came, End, Commit.
type done struct {
	what byte // i, e, c
	e    api.Event
}

// life is what an engine is told from its beginning to its end, with falls between.
type life struct {
	c     api.Config
	log   []api.Event // the archive's first
	sizes []int
	plan  sorter.Plan
	every int // a commit behind so many events that came
	// order is that in which the tail comes, from one fall to the next one.
	order func(tail []api.Event) []api.Event

	kept    []done // up to the last commit
	pending []done // up to the one in which the power went off
	opens   int
}

func inOrder(tail []api.Event) []api.Event {
	return tail
}

// someLife is one with an archive whose runs are merged, and an event in the tail that takes something back.
func someLife() *life {
	log := logOf(at(1, "a", 1), at(14, "b", 2), at(3, "a", 4), at(-5, "c", 8), at(16, "b", 16), at(18, "a", 32), at(2, "c", 64), at(33, "a", 128), at(21, "b", 256), at(9, "a", 512), at(50, "a", 1024), at(45, "b", 2048))
	for i := range log {
		// Such sums take few bytes, so that each number of them can be gone through.
		log[i].Val *= math.SmallestNonzeroFloat64
	}
	return &life{
		c:     upTo(with(tumbling(10), 30, 2, 1), 5),
		log:   log,
		sizes: []int{3},
		plan:  sorter.Plan{Hold: 2, Fan: 2},
		every: 3,
		order: inOrder,
	}
}

// anyLife is one of all kinds.
func anyLife(r *rand.Rand) *life {
	c := anyConfig(r)
	log := someLog(r, 24, c.Parts)
	return &life{
		c:     upTo(c, r.IntN(len(log))),
		log:   log,
		sizes: []int{r.IntN(9), r.IntN(9)},
		plan:  sorter.Plan{Hold: 1 + r.IntN(9), Fan: 2 + r.IntN(3)},
		every: 1 + r.IntN(6),
		order: inOrder,
	}
}

// store has the archive, and nothing else.
func (l *life) store(t *testing.T, room int) *files.Store {
	t.Helper()
	s := newStore(t, room)
	archive(t, s, l.log[:l.c.Cut], l.c.Parts, l.sizes...)
	return s
}

// modelOf is the model of an engine to which this was done, and which never fell.
func (l *life) modelOf(t *testing.T, all []done) *model {
	t.Helper()
	m := newModel(t, l.c, l.log[:l.c.Cut])
	for _, d := range all {
		switch d.what {
		case 'i':
			check(t, "In", m.in(d.e), api.OK)
		case 'e':
			check(t, "End", m.end(), api.OK)
		case 'c':
			m.commit()
		}
	}
	return m
}

// isCrash tells whether a call fell; else it answered OK.
func isCrash(t *testing.T, what string, s *files.Store, e api.Errno) bool {
	t.Helper()
	if s.On() {
		check(t, what, e, api.OK)
		return false
	}
	check(t, what, e, api.ErrCrash)
	return true
}

// commit has all that was done committed; false: it fell.
func (l *life) commit(t *testing.T, what string, s *files.Store, x *engine.Engine, m *model, all []done) ([]done, bool) {
	t.Helper()
	all = append(slices.Clone(all), done{what: 'c'})
	l.pending = all
	if isCrash(t, what+": Commit", s, x.Commit()) {
		for range 2 {
			check(t, "In", x.In(l.log[len(l.log)-1]), api.ErrCrash)
			check(t, "End", x.End(), api.ErrCrash)
			check(t, "Commit", x.Commit(), api.ErrCrash)
			checkEngine(t, what, x, m)
		}
		return nil, false
	}
	m.commit()
	l.kept = all
	checkEngine(t, what, x, m)
	checkFiles(t, what, s, m)
	return all, true
}

// open is an engine of what is kept, which is that up to the last commit, or up to the one that was cut; nil: it fell.
func (l *life) open(t *testing.T, what string, s *files.Store) (*engine.Engine, *model) {
	t.Helper()
	if len(l.kept) == 0 {
		l.pending = []done{{what: 'c'}}
	}
	x, e := engine.Open(s, l.c, l.plan)
	if isCrash(t, what+": Open", s, e) {
		if x != nil {
			t.Fatalf("%s: an engine beside ErrCrash", what)
		}
		return nil, nil
	}
	l.opens++
	m := l.modelOf(t, l.pending)
	if x.Commits() != uint64(len(m.commits)) {
		m = l.modelOf(t, l.kept)
	} else {
		l.kept = l.pending
	}
	checkEngine(t, what, x, m)
	checkFiles(t, what, s, m)
	return x, m
}

// try goes on from what is kept to the end; nil: it fell.
func (l *life) try(t *testing.T, what string, s *files.Store) (*engine.Engine, *model) {
	t.Helper()
	x, m := l.open(t, what, s)
	if x == nil {
		return nil, nil
	}
	all, ok := slices.Clone(l.kept), true
	for _, e := range l.order(l.log[l.c.Cut:]) {
		want := m.in(e)
		if m.o.Ended() {
			want = api.ErrState
		}
		check(t, what+": In", x.In(e), want)
		if want != api.OK {
			continue
		}
		all = append(all, done{'i', e})
		if len(m.came)%l.every > 0 {
			continue
		}
		if all, ok = l.commit(t, what, s, x, m, all); !ok {
			return nil, nil
		}
	}
	if !m.o.Ended() {
		checkEnd(t, what, x, m)
		all = append(all, done{what: 'e'})
	}
	if _, ok = l.commit(t, what, s, x, m, all); !ok {
		return nil, nil
	}
	return x, m
}

// live goes through it all, and answers what the ledger comes to, how often it fell, and how many bytes the first fall took.
func (l *life) live(t *testing.T, what string, s *files.Store, falls ...fall) (ledger []api.Change, fell, lost int) {
	t.Helper()
	l.kept, l.opens = nil, 0
	for {
		armed := 0
		if fell < len(falls) {
			armed = falls[fell].off
		}
		check(t, "Arm", s.Arm(armed), api.OK)
		x, m := l.try(t, what, s)
		if x != nil {
			check(t, "Arm", s.Arm(0), api.OK)
			l.checkNeverFallen(t, what, x, m)
			return x.Ledger().All(), fell, lost
		}
		used := s.Used()
		check(t, "Restart", s.Restart(slices.Repeat([]int{falls[fell].keep}, 40)), api.OK)
		if fell == 0 {
			lost = used - s.Used()
		}
		fell++
	}
}

// checkNeverFallen holds the ledger against that of an engine on another store to which the same events came in the order in which they were kept, and which was committed at the end alone.
func (l *life) checkNeverFallen(t *testing.T, what string, x *engine.Engine, m *model) {
	t.Helper()
	one := opened(t, what, l.store(t, bigRoom), l.c)
	for _, e := range m.came {
		check(t, "In", one.In(e), api.OK)
	}
	check(t, "End", one.End(), api.OK)
	check(t, "Commit", one.Commit(), api.OK)
	if a, b := x.Ledger().All(), one.Ledger().All(); !same(a, b) {
		t.Fatalf("%s: the ledger has %s\nnot %s", what, briefly(a), briefly(b))
	}
	if len(m.came) != len(l.log)-int(l.c.Cut) {
		t.Fatalf("%s: %d events came", what, len(m.came))
	}
	checkWhole(t, what, x, m)
}

// P19.3, P6: the power goes off in each operation of Open and of each Commit, with each number of bytes kept; then all comes again, in the same order: the ledger is what it would have been.
func TestFalls(t *testing.T) {
	l := someLife()
	want, _, _ := l.live(t, "no fall", l.store(t, bigRoom))
	if !slices.ContainsFunc(want, func(c api.Change) bool { return !c.Put }) {
		t.Fatalf("nothing is taken back: %s", briefly(want))
	}
	runs := 0
	for n := 1; ; n++ {
		fell := 0
		for keep := 0; ; keep++ {
			what := fmt.Sprintf("off in operation %d, %d bytes kept", n, keep)
			got, some, lost := l.live(t, what, l.store(t, bigRoom), fall{n, keep})
			fell = some
			runs++
			if !same(got, want) {
				t.Fatalf("%s: %s\nnot %s", what, briefly(got), briefly(want))
			}
			if lost == 0 {
				break
			}
		}
		if fell == 0 {
			if n < 40 || runs < 500 {
				t.Errorf("%d operations, %d runs", n-1, runs)
			}
			return
		}
	}
}

// P19.3: the power goes off in each operation, and again in each one behind the Restart, with some bytes kept, or none, or all.
func TestFallsAgain(t *testing.T) {
	l := someLife()
	want, _, _ := l.live(t, "no fall", l.store(t, bigRoom))
	twice := 0
	for n := 1; ; n++ {
		fell := 0
		for k := 1; ; k++ {
			keeps := []int{0, -1, 3 * k}
			falls := []fall{{n, keeps[n%3]}, {k, keeps[k%3]}, {1 + (n+k)%9, keeps[(n+k)%3]}}
			what := fmt.Sprintf("falls %v", falls)
			got, some, _ := l.live(t, what, l.store(t, bigRoom), falls...)
			fell = some
			if !same(got, want) {
				t.Fatalf("%s: %s\nnot %s", what, briefly(got), briefly(want))
			}
			if fell < 2 {
				break
			}
			twice++
		}
		if fell == 0 {
			break
		}
	}
	if twice < 800 {
		t.Errorf("%d times twice", twice)
	}
}

// P19.3: behind each fall the tail comes in another order, with some events twice: those that are kept answer ErrTwice, and the ledger is that of the order in which they came first into what is kept.
func TestFallsInOtherOrders(t *testing.T) {
	fallen, opens := 0, 0
	for seed := range uint64(500) {
		r := rand.New(rand.NewPCG(194, seed))
		l := anyLife(r)
		l.order = func(tail []api.Event) []api.Event { return someOrder(r, tail) }
		if seed%3 == 0 {
			l.order = func(tail []api.Event) []api.Event {
				tail = slices.Clone(tail)
				r.Shuffle(len(tail), func(i, j int) { tail[i], tail[j] = tail[j], tail[i] })
				return tail
			}
		}
		var falls []fall
		for range r.IntN(12) {
			falls = append(falls, fall{1 + r.IntN(40), r.IntN(400) - 20})
		}
		_, fell, _ := l.live(t, fmt.Sprintf("seed %d, %+v, falls %v", seed, l.c, falls), l.store(t, bigRoom), falls...)
		fallen += fell
		opens += l.opens
	}
	if fallen < 1000 || opens < 1000 {
		t.Errorf("%d falls, opened %d times", fallen, opens)
	}
}

// P19.3: all kinds of configs, with falls, each in the same order: the ledger is that of no fall.
func TestFallsOfEachKind(t *testing.T) {
	for i, c := range configs() {
		r := rand.New(rand.NewPCG(195, uint64(i)))
		l := anyLife(r)
		l.log = someLog(r, 20, c.Parts)
		for _, cut := range []int{0, 7, 20} {
			l.c = upTo(c, cut)
			want, _, _ := l.live(t, "no fall", l.store(t, bigRoom))
			for n := 1; ; n += 1 + r.IntN(25) {
				what := fmt.Sprintf("%+v, off in operation %d", l.c, n)
				got, fell, _ := l.live(t, what, l.store(t, bigRoom), fall{n, r.IntN(300) - 20}, fall{1 + r.IntN(20), r.IntN(300)})
				if !same(got, want) {
					t.Fatalf("%s: %s\nnot %s", what, briefly(got), briefly(want))
				}
				if fell == 0 {
					break
				}
			}
		}
	}
}

// P19.3: what wasn't committed is gone behind a Restart, and comes again; what was committed isn't, whatever is kept of the bytes.
func TestRestart(t *testing.T) {
	l := someLife()
	s := l.store(t, bigRoom)
	x, m := l.open(t, "Open", s)
	for i, e := range l.log[l.c.Cut:] {
		x, m = l.open(t, "Open", s)
		checkIn(t, "In", x, m, e)
		if i%2 == 0 {
			var ok bool
			if _, ok = l.commit(t, "Commit", s, x, m, append(slices.Clone(l.kept), done{'i', e})); !ok {
				t.Fatal("it fell")
			}
		}
		for _, keep := range []int{0, 5, -1} {
			check(t, "Restart", s.Restart(slices.Repeat([]int{keep}, 40)), api.OK)
			l.open(t, fmt.Sprintf("event %d", i), s)
		}
	}
	_, m = l.try(t, "at last", s)
	if len(m.came) != len(l.log)-int(l.c.Cut) {
		t.Errorf("%d events came", len(m.came))
	}
}

// P4: where nothing is ever late, the cut is no seam: whatever of the log is in the archive, compacted or not, in whatever order the others come, with falls and commits anywhere, the view is whole.Panes of the log.
func TestNoSeam(t *testing.T) {
	for seed := range uint64(60) {
		r := rand.New(rand.NewPCG(196, seed))
		l := anyLife(r)
		l.c.Late = -1 - r.Int64N(3)
		l.order = func(tail []api.Event) []api.Event { return someOrder(r, tail) }
		var want []api.Pane
		for _, cut := range []int{0, 1, r.IntN(len(l.log)), len(l.log) - 1, len(l.log)} {
			l.c.Cut = uint64(cut)
			s := l.store(t, bigRoom)
			if cut > l.sizes[0]+l.sizes[1] && l.sizes[0] > 0 && seed%2 == 0 {
				compact(t, s, l.c.Parts)
			}
			l.live(t, fmt.Sprintf("seed %d, %+v", seed, l.c), s, fall{1 + r.IntN(30), r.IntN(50)}, fall{1 + r.IntN(30), r.IntN(50)})
			view := opened(t, "Open", s, l.c).Ledger().View()
			if want == nil {
				want = view
			}
			panes := whole.Panes(l.c, l.log)
			if !slices.EqualFunc(view, want, samePane) || !slices.EqualFunc(view, panes, samePane) {
				t.Fatalf("seed %d, %+v: %+v\nnot %+v", seed, l.c, view, want)
			}
		}
	}
}
