package engine_test

import (
	"bytes"
	"fmt"
	"math"
	"math/rand/v2"
	"slices"
	"testing"

	"headrace/api"
	"headrace/commit"
	"headrace/engine"
	"headrace/ledger"
	"headrace/whole"
)

// P19.2: each kind of window, archives of none, some and all of the log, one event at a time, committed now and then, or at the end alone.
func TestRuns(t *testing.T) {
	for seed := range uint64(120) {
		r := rand.New(rand.NewPCG(190, seed))
		c := anyConfig(r)
		if seed < uint64(len(configs())) {
			c = configs()[seed]
		}
		log := someLog(r, 60, c.Parts)
		c = upTo(c, []int{0, len(log), r.IntN(len(log))}[r.IntN(3)])
		s := newStore(t, bigRoom)
		x, m := both(t, c, s, c, log, r.IntN(30))
		seldom := 1 + r.IntN(20)
		for i, e := range someOrder(r, log[c.Cut:]) {
			what := fmt.Sprintf("seed %d, %+v, event %d", seed, c, i)
			checkUnchanged(t, what, s, func() { checkIn(t, what, x, m, e) })
			checkEngine(t, what, x, m)
			if r.IntN(seldom) == 0 && len(m.commits) < most-2 {
				checkCommit(t, what, x, m)
				checkEngine(t, what, x, m)
				checkFiles(t, what, s, m)
			}
		}
		checkUnchanged(t, c, s, func() { checkEnd(t, c, x, m) })
		checkEngine(t, c, x, m)
		checkCommit(t, c, x, m)
		checkEngine(t, c, x, m)
		checkFiles(t, c, s, m)
		checkWhole(t, c, x, m)
	}
}

// checkWhole looks that the ledger's view is, behind End and Commit, all that the events come to that weren't late (P4).
func checkWhole(t *testing.T, what any, x *engine.Engine, m *model) {
	t.Helper()
	want := whole.Panes(m.c, m.counted)
	if view := x.Ledger().View(); !slices.EqualFunc(view, want, samePane) {
		t.Fatalf("%v: the view is %+v\nnot %+v", what, view, want)
	}
	if x.Operator().Late() != uint64(len(m.archive)+len(m.came)-len(m.counted)) {
		t.Fatalf("%v: %d late", what, x.Operator().Late())
	}
}

// P19.2, P19.3: an engine that is committed and opened anew behind each event, or now and then, against the model of one that isn't.
func TestOpenedAnew(t *testing.T) {
	for seed := range uint64(80) {
		r := rand.New(rand.NewPCG(191, seed))
		c := anyConfig(r)
		log := someLog(r, 50, c.Parts)
		c = upTo(c, r.IntN(len(log)))
		s := newStore(t, bigRoom)
		x, m := both(t, c, s, c, log, r.IntN(30))
		seldom := 1 + int(seed%4)
		for i, e := range someOrder(r, log[c.Cut:]) {
			what := fmt.Sprintf("seed %d, %+v, event %d", seed, c, i)
			checkIn(t, what, x, m, e)
			if r.IntN(seldom) > 0 {
				continue
			}
			checkCommit(t, what, x, m)
			for range 1 + r.IntN(2) {
				checkUnchanged(t, what, s, func() { x = opened(t, what, s, c) })
				checkEngine(t, what, x, m)
				checkFiles(t, what, s, m)
			}
		}
		checkEnd(t, c, x, m)
		checkCommit(t, c, x, m)
		x = opened(t, c, s, c)
		checkEngine(t, c, x, m)
		checkWhole(t, c, x, m)
		checkEnded(t, c, x, m)
	}
}

// checkEnded looks what In and End answer behind End, and that Commit goes on.
func checkEnded(t *testing.T, what any, x *engine.Engine, m *model) {
	t.Helper()
	for _, e := range []api.Event{{Offset: api.MaxOffset - 1}, {Offset: m.c.Cut}, {Part: -1}, {Offset: math.MaxUint64}} {
		check(t, what, x.In(e), api.ErrState)
	}
	check(t, what, x.End(), api.ErrState)
	checkEngine(t, what, x, m)
	checkCommit(t, what, x, m)
	checkEngine(t, what, x, m)
}

// P19.2: behind End In and End answer ErrState, also where End is committed, or isn't yet, and behind an Open.
func TestBehindEnd(t *testing.T) {
	log := someLog(rand.New(rand.NewPCG(192, 1)), 30, 1)
	c := upTo(with(session(5), 4, 0, 1), 10)
	s := newStore(t, bigRoom)
	x, m := both(t, "Open", s, c, log, 5)
	for _, e := range log[10:] {
		checkIn(t, "In", x, m, e)
	}
	checkEnd(t, "End", x, m)
	checkEnded(t, "not committed", x, m)
	checkEnded(t, "committed", x, m)
	checkFiles(t, "committed", s, m)
	x = opened(t, "Open", s, c)
	checkEngine(t, "opened", x, m)
	checkEnded(t, "opened", x, m)
	checkWhole(t, "opened", x, m)
}

// P19.2: an End that wasn't committed is as if it hadn't been.
func TestEndNotCommitted(t *testing.T) {
	log := someLog(rand.New(rand.NewPCG(192, 2)), 30, 1)
	c := upTo(tumbling(10), 10)
	s := newStore(t, bigRoom)
	x, m := both(t, "Open", s, c, log, 5)
	checkIn(t, "In", x, m, log[10])
	checkCommit(t, "Commit", x, m)
	check(t, "End", x.End(), api.OK)
	x = opened(t, "Open", s, c)
	checkEngine(t, "opened", x, m)
	checkIn(t, "In", x, m, log[11])
	checkEnd(t, "End", x, m)
	checkCommit(t, "Commit", x, m)
	checkWhole(t, "ended", x, m)
}

// P19.2: In's errors are the operator's, and change nothing.
func TestInErrors(t *testing.T) {
	log := someLog(rand.New(rand.NewPCG(192, 3)), 30, 2)
	c := upTo(with(sliding(10, 4), 3, 1, 2), 10)
	s := newStore(t, bigRoom)
	x, m := both(t, "Open", s, c, log, 5)
	checkIn(t, "In", x, m, log[15])
	for range 2 {
		for _, y := range []struct {
			e    api.Event
			want api.Errno
		}{
			{log[15], api.ErrTwice},
			{api.Event{Offset: 15, Time: 999, Key: "another"}, api.ErrTwice},
			{log[9], api.ErrStale},
			{api.Event{}, api.ErrStale},
			{api.Event{Offset: 20, Part: 2}, api.ErrForm},
			{api.Event{Offset: 9, Part: -1}, api.ErrForm},
			{api.Event{Offset: 20, Time: api.MaxTime + 1}, api.ErrForm},
			{api.Event{Offset: 20, Time: -api.MaxTime - 1}, api.ErrForm},
			{api.Event{Offset: 20, Key: longest + "k"}, api.ErrForm},
			{api.Event{Offset: api.MaxOffset}, api.ErrForm},
		} {
			checkUnchanged(t, y.e, s, func() { check(t, y.e, x.In(y.e), y.want) })
			checkIn(t, y.e, x, m, y.e)
			checkEngine(t, y.e, x, m)
		}
		checkCommit(t, "Commit", x, m)
		x = opened(t, "Open", s, c)
		checkIn(t, "the least time", x, m, api.Event{Offset: api.MaxOffset - 1, Time: -api.MaxTime, Key: longest, Val: math.NaN()})
		checkIn(t, "the greatest time", x, m, api.Event{Offset: api.MaxOffset - 2, Time: api.MaxTime, Part: 1})
	}
}

// P19.2: where nothing waits a commit is one, too; the last number that there may be, and one more.
func TestCommits(t *testing.T) {
	log := someLog(rand.New(rand.NewPCG(192, 4)), 2*most, 1)
	c := tumbling(10)
	for _, empty := range []bool{false, true} {
		s := newStore(t, api.MaxStore)
		x, m := both(t, "Open", s, c, nil)
		for i := 2; i <= most; i++ {
			if !empty {
				checkIn(t, i, x, m, log[i])
			}
			checkCommit(t, i, x, m)
			if i%9 == 0 {
				x = opened(t, i, s, c)
			}
			checkEngine(t, i, x, m)
		}
		checkFiles(t, "the last commit", s, m)
		for i := range 3 {
			checkIn(t, "behind the last commit", x, m, log[most+1+i])
			checkUnchanged(t, "one more", s, func() { check(t, "one more", x.Commit(), api.ErrArg) })
			checkEngine(t, "one more", x, m)
		}
		checkEnd(t, "End", x, m)
		check(t, "one more", x.Commit(), api.ErrArg)
		checkEngine(t, "one more", x, m)
		checkFiles(t, "one more", s, m)
		if o := opened(t, "Open", s, c); o.Commits() != most || len(o.Waiting()) > 0 {
			t.Errorf("%d commits", o.Commits())
		}
	}
}

// P19.2: commit.Put's other errors: of two engines on a store one doesn't commit what the other has, and a spoilt man.
func TestCommitErrors(t *testing.T) {
	log := someLog(rand.New(rand.NewPCG(192, 5)), 30, 1)
	c := tumbling(10)
	s := newStore(t, bigRoom)
	x, m := both(t, "Open", s, c, nil)
	ahead := opened(t, "ahead", s, c)
	checkIn(t, "In", x, m, log[0])
	check(t, "In", ahead.In(log[1]), api.OK)
	check(t, "Commit", ahead.Commit(), api.OK)
	checkUnchanged(t, "behind", s, func() { check(t, "Commit", x.Commit(), api.ErrOrder) })
	checkEngine(t, "behind", x, m)

	for bit, want := range map[int]api.Errno{8: api.ErrForm, 33: api.ErrSum} {
		check(t, "Spoil", s.Spoil("man", bit), api.OK)
		checkUnchanged(t, "spoilt", s, func() { check(t, "Commit", ahead.Commit(), want) })
		check(t, "Spoil", s.Spoil("man", bit), api.OK)
	}
	check(t, "Commit", ahead.Commit(), api.OK)
	if o := opened(t, "Open", s, c); o.Commits() != 3 || !o.Operator().Seen(1) || o.Operator().Seen(0) {
		t.Errorf("%d commits", o.Commits())
	}
}

// P5: what no ledger takes isn't committed: here of a state that isn't of the changes beside it. All goes on as it was.
func TestStateOfOtherChanges(t *testing.T) {
	c := with(tumbling(10), -1, 0, 1)
	s := newStore(t, bigRoom)
	x, m := both(t, "Open", s, c, nil)
	checkIn(t, "In", x, m, api.Event{Time: 5, Key: "k", Val: 1})
	checkIn(t, "In", x, m, api.Event{Offset: 1, Time: 25, Key: "k", Val: 1})
	s = tampered(t, m.o.Save(), nil)
	other := opened(t, "without changes", s, c)
	check(t, "In", other.In(api.Event{Offset: 2, Time: 6, Key: "k", Val: 1}), api.OK)
	for range 2 {
		checkUnchanged(t, "taken back what wasn't told", s, func() { check(t, "Commit", other.Commit(), api.ErrOrder) })
		if other.Commits() != 1 || other.Ledger().Len() != 0 || len(other.Waiting()) != 2 {
			t.Errorf("%d commits, %d changes, %d wait", other.Commits(), other.Ledger().Len(), len(other.Waiting()))
		}
	}
	opened(t, "what was committed", s, c)
}

// P19.2: behind a crash of the store In, End and Commit answer ErrCrash, whatever else applies, also behind the Restart; what is told is as it was.
func TestBehindCrash(t *testing.T) {
	log := someLog(rand.New(rand.NewPCG(192, 6)), 30, 1)
	c := upTo(with(session(5), 4, 0, 1), 10)
	crashed := func(t *testing.T, x *engine.Engine, m *model) {
		t.Helper()
		for range 2 {
			for _, e := range []api.Event{log[10], log[12], log[0], {Part: 9}, {Offset: math.MaxUint64}} {
				check(t, "In", x.In(e), api.ErrCrash)
			}
			check(t, "End", x.End(), api.ErrCrash)
			check(t, "Commit", x.Commit(), api.ErrCrash)
			checkEngine(t, "crashed", x, m)
		}
	}
	first := map[string]func(x *engine.Engine) api.Errno{
		"In":     func(x *engine.Engine) api.Errno { return x.In(log[11]) },
		"End":    (*engine.Engine).End,
		"Commit": (*engine.Engine).Commit,
	}
	for name, call := range first {
		for _, ended := range []bool{false, true} {
			for _, inCommit := range []bool{false, true} {
				s := newStore(t, bigRoom)
				x, m := both(t, name, s, c, log, 5)
				checkIn(t, name, x, m, log[10])
				if ended {
					checkEnd(t, name, x, m)
				}
				if inCommit {
					check(t, "Arm", s.Arm(4), api.OK)
					check(t, "Commit", x.Commit(), api.ErrCrash)
				} else {
					switchOff(t, s)
				}
				// The first call behind the fall may come ahead of the Restart, or, if the
				// fall was its own, behind it.
				if !inCommit {
					check(t, name, call(x), api.ErrCrash)
				}
				check(t, "Restart", s.Restart(nil), api.OK)
				check(t, name, call(x), api.ErrCrash)
				checkUnchanged(t, name, s, func() { crashed(t, x, m) })
				switchOff(t, s)
				checkUnchanged(t, name, s, func() { crashed(t, x, m) })
			}
		}
	}
}

// P19.2: a power that is only to go off, and doesn't in what In and End do, is none that is off.
func TestArmed(t *testing.T) {
	log := someLog(rand.New(rand.NewPCG(192, 7)), 30, 1)
	s := newStore(t, bigRoom)
	x, m := both(t, "Open", s, tumbling(10), nil)
	check(t, "Arm", s.Arm(1), api.OK)
	for _, e := range log {
		checkIn(t, "armed", x, m, e)
	}
	checkEnd(t, "armed", x, m)
	checkEngine(t, "armed", x, m)
	check(t, "Arm", s.Arm(0), api.OK)
	checkCommit(t, "not armed", x, m)
	checkEngine(t, "not armed", x, m)
}

// P19.2: of a nil engine: ErrNone, zero values.
func TestNil(t *testing.T) {
	var x *engine.Engine
	for _, e := range []api.Event{{}, {Part: -1}, {Offset: math.MaxUint64}} {
		check(t, "In", x.In(e), api.ErrNone)
	}
	check(t, "End", x.End(), api.ErrNone)
	check(t, "Commit", x.Commit(), api.ErrNone)
	if x.Commits() != 0 || x.Ledger() != nil || len(x.Waiting()) > 0 || x.Operator() != nil {
		t.Errorf("%d, %v, %v, %v", x.Commits(), x.Ledger(), x.Waiting(), x.Operator())
	}
	// What a nil engine hands out may be asked as well.
	if x.Ledger().Len() != 0 || x.Operator().Late() != 0 {
		t.Error("of what it hands out")
	}
}

// Memory: what is answered may be written over: lists, the ledger, the operator.
func TestAnswersWrittenOver(t *testing.T) {
	log := someLog(rand.New(rand.NewPCG(192, 8)), 40, 1)
	c := upTo(with(tumbling(5), -1, 0, 1), 10)
	s := newStore(t, bigRoom)
	x, m := both(t, "Open", s, c, log, 5)
	for i, e := range log[10:] {
		checkIn(t, i, x, m, e)
		writeOver(t, x, i)
		checkEngine(t, i, x, m)
		if i%5 == 4 {
			checkCommit(t, i, x, m)
			writeOver(t, x, i)
			checkEngine(t, i, x, m)
		}
		if i%10 == 9 {
			x = opened(t, i, s, c)
		}
	}
	checkEnd(t, "End", x, m)
	checkCommit(t, "Commit", x, m)
	checkEngine(t, "End", x, m)
	checkFiles(t, "End", s, m)
	checkWhole(t, "End", x, m)
}

func writeOver(t *testing.T, x *engine.Engine, i int) {
	t.Helper()
	junk := api.Change{Rev: 77, P: api.Pane{Key: "written over"}}
	waiting, g, o := x.Waiting(), x.Ledger(), x.Operator()
	for _, l := range [][]api.Change{waiting, waiting[:cap(waiting)], g.All()} {
		for i := range l {
			l[i] = junk
		}
	}
	for _, p := range g.View() {
		p.Key = "written over"
	}
	check(t, "Add", g.Add([]api.Change{{Put: true, P: api.Pane{Key: "written over"}}}), api.OK)
	o.In(api.Event{Offset: uint64(10 + (i+7)%30), Time: 1000, Key: "written over"})
	if i%3 == 0 {
		o.End()
	}
	o.Out()
}

// Memory: what is answered stays as it is, whatever the engine does then.
func TestAnswersStay(t *testing.T) {
	log := someLog(rand.New(rand.NewPCG(192, 9)), 40, 1)
	c := with(tumbling(5), -1, 0, 1)
	s := newStore(t, bigRoom)
	x, m := both(t, "Open", s, c, nil)
	type answers struct {
		waiting, waitingThen []api.Change
		g                    *ledger.Ledger
		told                 []api.Change
		state                []byte
	}
	var l []answers
	for i, e := range log {
		l = append(l, answers{x.Waiting(), slices.Clone(m.waiting), x.Ledger(), m.told(), x.Operator().Save()})
		checkIn(t, i, x, m, e)
		if i%7 == 6 {
			checkCommit(t, i, x, m)
		}
	}
	for i, a := range l {
		if !same(a.waiting, a.waitingThen) || !same(a.g.All(), a.told) || i > 0 && bytes.Equal(a.state, l[i-1].state) {
			t.Errorf("event %d: %s, %s", i, briefly(a.waiting), briefly(a.g.All()))
		}
	}
}

// P2: what is answered depends on nothing else: two stores come to the same, byte by byte, and asking changes nothing.
func TestSameAgain(t *testing.T) {
	for seed := range uint64(20) {
		var first string
		for asked := range 2 {
			r := rand.New(rand.NewPCG(193, seed))
			c := anyConfig(r)
			log := someLog(r, 40, c.Parts)
			c = upTo(c, r.IntN(40))
			s := newStore(t, bigRoom)
			x, m := both(t, c, s, c, log, 7)
			var told []string
			for i, e := range someOrder(r, log[c.Cut:]) {
				told = append(told, fmt.Sprint(x.In(e)))
				for range asked * i % 3 {
					x.Waiting()
					x.Ledger().View()
					x.Operator().Out()
					x.Commits()
				}
				if i%9 == 8 {
					told = append(told, fmt.Sprint(x.Commit()), briefly(x.Ledger().All()))
				}
			}
			told = append(told, fmt.Sprint(x.End(), x.End(), x.Commit()), fmt.Sprint(filesOf(t, s)), fmt.Sprint(s.Ops()))
			if m.o.Ended() {
				t.Error("the model is the engine's")
			}
			if all := fmt.Sprint(told); first == "" {
				first = all
			} else if all != first {
				t.Fatalf("seed %d: %s\nnot %s", seed, all, first)
			}
		}
	}
}

// P19.2: a state of more bytes than a page has is committed, and gone on with.
func TestLongState(t *testing.T) {
	c := with(session(5), -1, 0, 2)
	s := newStore(t, api.MaxStore)
	x := opened(t, "Open", s, c)
	n := 0
	for len(x.Operator().Save()) <= api.MaxPage {
		for range 500 {
			check(t, "In", x.In(api.Event{Offset: uint64(n), Time: int64(10 * n), Key: fmt.Sprintf("key %d", n%99), Val: 1e308}), api.OK)
			n++
		}
	}
	check(t, "In", x.In(api.Event{Offset: uint64(n), Time: int64(10 * n), Part: 1}), api.OK)
	if len(x.Waiting()) < n-500 {
		t.Fatalf("%d of %d wait", len(x.Waiting()), n)
	}
	check(t, "Commit", x.Commit(), api.OK)
	o := opened(t, "Open", s, c)
	if !bytes.Equal(o.Operator().Save(), x.Operator().Save()) || !same(o.Ledger().All(), x.Ledger().All()) {
		t.Error("it isn't what was committed")
	}
	check(t, "In", o.In(api.Event{Offset: 1}), api.ErrTwice)
	check(t, "End", o.End(), api.OK)
	check(t, "Commit", o.Commit(), api.OK)
	if l := o.Ledger().View(); len(l) != n+1 {
		t.Errorf("%d panes of %d", len(l), n+1)
	}
	n1, _, l, e := commit.Recover(s)
	if n1 != 3 || len(l) != o.Ledger().Len() || e != api.OK {
		t.Errorf("%d commits, %d changes, error %d", n1, len(l), e)
	}
}
