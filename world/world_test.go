package world_test

import (
	"fmt"
	"math"
	"slices"
	"strings"
	"testing"

	"headrace/api"
	"headrace/column"
	"headrace/files"
	"headrace/page"
	"headrace/segment"
	"headrace/sorter"
	"headrace/whole"
	"headrace/world"
)

// P20.1: the chapter's example: emit four, Seal 2, Open, Deliver 2 and 3, End, Commit: the ledger's view is whole.Panes of the log.
func TestExample(t *testing.T) {
	for _, c := range []api.Config{upTo(with(tumbling(10), 10, 0, 1), 2), upTo(with(session(5), -1, 0, 1), 2)} {
		w := newWorld(t, bigRoom, c, plan)
		do(t, w, emit(at(3, "a", 1)), emit(at(5, "b", 2)), emit(at(14, "a", 4)), emit(at(6, "a", 8)))
		do(t, w, step(world.Seal, 2), step(world.Open), step(world.Deliver, 2), step(world.Deliver, 3), step(world.End), step(world.Commit))
		if view := w.Engine().Ledger().View(); !slices.EqualFunc(view, whole.Panes(c, w.Log()), samePane) || len(view) < 3 {
			t.Errorf("%+v", view)
		}
	}
}

// The kinds are numbered from 0 on.
func TestKinds(t *testing.T) {
	for i, kind := range []byte{world.Emit, world.Seal, world.Compact, world.Open, world.Deliver, world.End, world.Commit, world.Arm, world.Restart, world.Spoil} {
		if kind != byte(i) {
			t.Errorf("kind %d is %d", i, kind)
		}
	}
}

// P20.1: New: an empty log, an empty store with so much room; files.New's error.
func TestNew(t *testing.T) {
	for room, want := range map[int]api.Errno{
		math.MinInt: api.ErrArg, -1: api.ErrArg, 0: api.ErrArg, 1: api.OK, 2: api.OK, api.MaxStore: api.OK, api.MaxStore + 1: api.ErrArg, math.MaxInt: api.ErrArg,
	} {
		// Whether the config and the plan have their form plays no part.
		for _, c := range []api.Config{tumbling(10), {}, {Kind: 9, Parts: -1}} {
			for _, p := range []sorter.Plan{plan, {}} {
				w, e := world.New(room, c, p)
				check(t, room, e, want)
				if (w == nil) != (want != api.OK) {
					t.Errorf("New(%d) = %v", room, w)
				}
				if w == nil {
					continue
				}
				if len(w.Log()) > 0 || len(w.Store().List()) > 0 || !w.Store().On() || w.Engine() != nil {
					t.Errorf("New(%d): %v, %q, %v", room, w.Log(), w.Store().List(), w.Engine())
				}
				check(t, "Append", w.Store().Append("a", make([]byte, room)), api.OK)
				check(t, "Append", w.Store().Append("a", []byte{0}), api.ErrFull)
			}
		}
	}
}

// P20.1: Emit: events at the limits of their form, and beyond; the offset is told by the log.
func TestEmit(t *testing.T) {
	for _, parts := range []int{1, 2, api.MaxParts} {
		w := newWorld(t, bigRoom, with(tumbling(10), 0, 0, parts), plan)
		var want []api.Event
		for _, good := range []api.Event{
			{}, {Offset: 7, Key: "a"}, {Offset: api.MaxOffset}, {Offset: math.MaxUint64, Val: math.NaN()}, {Part: parts - 1},
			{Time: api.MaxTime}, {Time: -api.MaxTime}, {Key: longest}, {Val: math.Inf(-1)},
		} {
			do(t, w, emit(good))
			good.Offset = uint64(len(want))
			want = append(want, good)
			for _, bad := range []api.Event{
				{Part: -1}, {Part: parts}, {Part: math.MaxInt}, {Time: api.MaxTime + 1}, {Time: -api.MaxTime - 1}, {Time: math.MinInt64}, {Key: longest + "k"},
				{Offset: uint64(len(want)), Part: parts},
			} {
				checkRefused(t, w, emit(bad), api.ErrForm)
			}
			if l := w.Log(); !slices.EqualFunc(l, want, sameEvent) {
				t.Fatalf("the log is %+v, not %+v", l, want)
			}
		}
		check(t, "no power", w.Do(step(world.Arm, 1)), api.OK)
		check(t, "no power", w.Do(step(world.Open)), api.ErrCrash)
		do(t, w, emit(at(1, "a", 1)))
	}
}

// P20.1: a log of no partitions takes no events; one of more than there may be takes them, but has no archive and no engine.
func TestConfigsWithoutForm(t *testing.T) {
	for parts, want := range map[int]api.Errno{-1: api.ErrForm, 0: api.ErrForm, api.MaxParts + 1: api.OK} {
		w := newWorld(t, bigRoom, with(tumbling(10), 0, 0, parts), plan)
		check(t, parts, w.Do(emit(at(1, "a", 1))), want)
		for _, x := range []world.Step{step(world.Seal, 1), step(world.Compact), step(world.Open)} {
			checkRefused(t, w, x, api.ErrArg)
		}
	}
	c := tumbling(10)
	c.Size = 0
	w := newWorld(t, bigRoom, c, plan)
	do(t, w, emit(at(1, "a", 1)), emit(at(1, "a", 1)), step(world.Seal, 1), step(world.Seal, 1), step(world.Compact))
	checkRefused(t, w, step(world.Open), api.ErrArg)
	w = newWorld(t, bigRoom, tumbling(10), sorter.Plan{})
	do(t, w, emit(at(1, "a", 1)), step(world.Seal, 1))
	checkRefused(t, w, step(world.Open), api.ErrArg)
}

// P20.1: Seal: the next events behind what is sealed, as many as there are, and one more.
func TestSeal(t *testing.T) {
	w := emitted(t, 20, with(tumbling(10), 0, 0, 2))
	sealed := 0
	for _, n := range []int{1, 5, 2, 12} {
		for _, bad := range []int{0, -1, 20 - sealed + 1, 21, math.MaxInt, math.MinInt} {
			checkRefused(t, w, step(world.Seal, bad), api.ErrArg)
		}
		do(t, w, step(world.Seal, n))
		p, e := w.Store().Read(fmt.Sprintf("seg.%d.%d", sealed, sealed+n))
		check(t, "Read", e, api.OK)
		want, _ := segment.Write(w.Log()[sealed:sealed+n], 2)
		if string(p) != string(want) {
			t.Errorf("%d events are sealed as %x, not %x", n, p, want)
		}
		sealed += n
	}
	checkRefused(t, w, step(world.Seal, 1), api.ErrArg)
	do(t, w, emit(at(1, "a", 1)), step(world.Seal, 1))
	if l := w.Store().List(); len(l) != 6 {
		t.Errorf("files %q", l)
	}
}

// P20.1: Seal: catalog.Seal's errors: too many events, too many segments, no room.
func TestSealErrors(t *testing.T) {
	w := emitted(t, api.MaxSeal+1, tumbling(10))
	checkRefused(t, w, step(world.Seal, api.MaxSeal+1), api.ErrLong)
	checkRefused(t, w, step(world.Seal, api.MaxSeal+2), api.ErrArg)
	do(t, w, step(world.Seal, api.MaxSeal))

	w = emitted(t, api.MaxFiles/2+2, tumbling(10))
	for range api.MaxFiles / 2 {
		do(t, w, step(world.Seal, 1))
	}
	checkRefused(t, w, step(world.Seal, 1), api.ErrLong)
	checkRefused(t, w, step(world.Seal, 3), api.ErrArg)
	checkRefused(t, w, step(world.Seal, 0), api.ErrArg)
	do(t, w, step(world.Compact, 17), step(world.Seal, 2))

	w = newWorld(t, 30, tumbling(10), plan)
	do(t, w, emit(at(1, "a", 1)))
	check(t, "no room", w.Do(step(world.Seal, 1)), api.ErrFull)
	if len(w.Store().List()) > 0 {
		t.Errorf("no room: files %q", w.Store().List())
	}
}

// P20.1: Seal, Compact: catalog.Open's error goes ahead of what N is; a catalog that tells of more events than the log has leaves none to seal.
func TestCatalogErrors(t *testing.T) {
	w := emitted(t, 20, tumbling(10))
	do(t, w, step(world.Seal, 5), step(world.Seal, 5), step(world.Spoil, 0, 50))
	for _, n := range []int{-1, 0, 1, 99} {
		checkRefused(t, w, step(world.Seal, n), api.ErrSum)
		checkRefused(t, w, step(world.Compact, n), api.ErrSum)
	}
	do(t, w, step(world.Spoil, 0, 50), step(world.Arm, 1))
	check(t, "Compact", w.Do(step(world.Compact, 0)), api.ErrCrash)
	for _, n := range []int{-1, 0, 1, 99} {
		checkRefused(t, w, step(world.Seal, n), api.ErrCrash)
		checkRefused(t, w, step(world.Compact, n), api.ErrCrash)
	}
	for _, to := range []uint64{20, 21, 1000} {
		w := emitted(t, 20, tumbling(10))
		body := column.Uint(column.Uint(column.Uint(column.Uint(nil, 1), 1), 0), to)
		check(t, "Append", w.Store().Append("cat", page.Lay(nil, 'c', column.Int(column.Int(body, 0), 9))), api.OK)
		for _, n := range []int{0, 1, 20, math.MaxInt} {
			checkRefused(t, w, step(world.Seal, n), api.ErrArg)
		}
	}
}

// P20.1: Compact: each place, and beyond.
func TestCompact(t *testing.T) {
	w := emitted(t, 20, tumbling(10))
	for _, n := range []int{-1, 0, 1, math.MaxInt} {
		checkRefused(t, w, step(world.Compact, n), api.ErrArg)
	}
	do(t, w, step(world.Seal, 3), step(world.Seal, 4), step(world.Seal, 5))
	for _, n := range []int{-1, 2, 3, math.MaxInt, math.MinInt} {
		checkRefused(t, w, step(world.Compact, n), api.ErrArg)
	}
	do(t, w, step(world.Compact, 1))
	if l := w.Store().List(); !slices.Equal(l, []string{"cat", "seg.0.3", "seg.3.12"}) {
		t.Errorf("files %q", l)
	}
	do(t, w, step(world.Compact, 0))
	if l := w.Store().List(); !slices.Equal(l, []string{"cat", "seg.0.12"}) {
		t.Errorf("files %q", l)
	}
	checkRefused(t, w, step(world.Compact, 0), api.ErrArg)
}

// P20.1: Open: a new engine in the place of the one that there was: what waited waits no more.
func TestOpen(t *testing.T) {
	w := emitted(t, 20, upTo(tumbling(5), 6))
	checkRefused(t, w, step(world.Open), api.ErrGap)
	do(t, w, step(world.Seal, 6), step(world.Open))
	one := w.Engine()
	do(t, w, step(world.Deliver, 7), step(world.Deliver, 8))
	if one.Commits() != 1 || len(one.Waiting()) == 0 || w.Engine() != one {
		t.Fatalf("%d commits, %d wait", one.Commits(), len(one.Waiting()))
	}
	do(t, w, step(world.Open))
	if x := w.Engine(); x == one || x.Commits() != 1 || len(x.Waiting()) > 0 || x.Operator().Seen(7) {
		t.Errorf("%d commits, %d wait", x.Commits(), len(x.Waiting()))
	}
	do(t, w, step(world.Deliver, 7), step(world.Commit), step(world.Open))
	if x := w.Engine(); x.Commits() != 2 || !x.Operator().Seen(7) || x.Operator().Seen(8) {
		t.Errorf("%d commits", x.Commits())
	}
}

// checkNoEngine looks that there is none, and what the steps answer then that need one.
func checkNoEngine(t *testing.T, w *world.World) {
	t.Helper()
	if w.Engine() != nil {
		t.Fatal("there is an engine")
	}
	for range 2 {
		checkRefused(t, w, step(world.Deliver, 0), api.ErrNone)
		checkRefused(t, w, step(world.Deliver, len(w.Log())-1), api.ErrNone)
		checkRefused(t, w, step(world.End), api.ErrNone)
		checkRefused(t, w, step(world.Commit), api.ErrNone)
		for _, n := range []int{-1, len(w.Log()), math.MaxInt, math.MinInt} {
			checkRefused(t, w, step(world.Deliver, n), api.ErrArg)
		}
	}
}

// P20.1: where there is no engine: at first, behind a Restart, behind an Open that told an error, whatever there was ahead.
func TestNoEngine(t *testing.T) {
	w := emitted(t, 20, upTo(tumbling(5), 6))
	checkNoEngine(t, w)
	check(t, "Open", w.Do(step(world.Open)), api.ErrGap)
	checkNoEngine(t, w)
	do(t, w, step(world.Seal, 6), step(world.Open), step(world.Restart))
	checkNoEngine(t, w)
	for name, want := range map[string]api.Errno{"man": api.ErrSum, "out.1": api.ErrSum, "state.1": api.ErrSum} {
		do(t, w, step(world.Open))
		at := slices.Index(w.Store().List(), name)
		do(t, w, step(world.Spoil, at, 50))
		check(t, name, w.Do(step(world.Open)), want)
		checkNoEngine(t, w)
		do(t, w, step(world.Spoil, at, 50))
	}
	do(t, w, step(world.Open), step(world.Arm, 1))
	check(t, "Commit", w.Do(step(world.Commit)), api.ErrCrash)
	check(t, "Open", w.Do(step(world.Open)), api.ErrCrash)
	checkNoEngine(t, w)
	do(t, w, step(world.Restart), step(world.Open), step(world.Deliver, 6))
}

// P20.1: Deliver: each place in the log, and beyond; the engine's errors.
func TestDeliver(t *testing.T) {
	w := emitted(t, 12, upTo(tumbling(5), 4))
	do(t, w, step(world.Seal, 6), step(world.Open))
	for _, n := range []int{-1, 12, 13, math.MaxInt, math.MinInt} {
		checkRefused(t, w, step(world.Deliver, n), api.ErrArg)
	}
	for n := range 4 {
		checkRefused(t, w, step(world.Deliver, n), api.ErrStale)
	}
	for _, n := range []int{11, 4, 5, 7} {
		do(t, w, step(world.Deliver, n))
		checkRefused(t, w, step(world.Deliver, n), api.ErrTwice)
	}
	do(t, w, emit(at(9, "a", 1)), step(world.Deliver, 12), step(world.End))
	checkRefused(t, w, step(world.Deliver, 6), api.ErrState)
	checkRefused(t, w, step(world.Deliver, 13), api.ErrArg)
	checkRefused(t, w, step(world.End), api.ErrState)
	do(t, w, step(world.Commit), step(world.Commit), step(world.Arm, 1))
	check(t, "Commit", w.Do(step(world.Commit)), api.ErrCrash)
	for _, x := range []world.Step{step(world.Deliver, 6), step(world.Deliver, 0), step(world.End), step(world.Commit)} {
		checkRefused(t, w, x, api.ErrCrash)
	}
	checkRefused(t, w, step(world.Deliver, 13), api.ErrArg)
}

// P20.1: an engine goes on while there is more in the archive; another step's crash is its own, too.
func TestSealBesideEngine(t *testing.T) {
	w := emitted(t, 12, upTo(tumbling(5), 4))
	do(t, w, step(world.Seal, 4), step(world.Open), step(world.Deliver, 5), step(world.Seal, 4), step(world.Compact), step(world.Deliver, 4), step(world.Commit))
	do(t, w, step(world.Arm, 2))
	check(t, "Seal", w.Do(step(world.Seal, 1)), api.ErrCrash)
	for _, x := range []world.Step{step(world.Deliver, 6), step(world.End), step(world.Commit), step(world.Seal, 1), step(world.Compact)} {
		checkRefused(t, w, x, api.ErrCrash)
	}
	do(t, w, step(world.Restart), step(world.Open), step(world.Deliver, 6))
	checkRefused(t, w, step(world.Deliver, 5), api.ErrTwice)
}

// P20.1: Commit: the last number that there may be, and one more.
func TestCommits(t *testing.T) {
	w := emitted(t, 1, tumbling(5))
	do(t, w, step(world.Open))
	for range api.MaxFiles/4 - 1 {
		do(t, w, step(world.Commit))
	}
	checkRefused(t, w, step(world.Commit), api.ErrArg)
	if w.Engine().Commits() != api.MaxFiles/4 {
		t.Errorf("%d commits", w.Engine().Commits())
	}
}

// P20.1: Arm: N operations from now on; below 0 it is ErrArg, and what was armed is.
func TestArm(t *testing.T) {
	for n := 1; n < 7; n++ {
		w := emitted(t, 2, tumbling(5))
		do(t, w, step(world.Arm, n))
		checkRefused(t, w, step(world.Arm, -1), api.ErrArg)
		checkRefused(t, w, step(world.Arm, math.MinInt), api.ErrArg)
		check(t, n, w.Do(step(world.Seal, 1)), map[bool]api.Errno{true: api.ErrCrash, false: api.OK}[n < 6])
		if n < 6 && w.Store().Ops() != n || w.Store().On() != (n == 6) {
			t.Errorf("armed by %d: %d operations", n, w.Store().Ops())
		}
		w = emitted(t, 2, tumbling(5))
		do(t, w, step(world.Arm, n), step(world.Arm, 0), step(world.Seal, 1))
	}
}

// P20.1: Restart: of each file's bytes as many are kept as Keep says, the power is on, nothing is armed, there is no engine.
func TestRestart(t *testing.T) {
	for keep, want := range map[string]string{"": "xy|", "1": "xyz|", "1 1": "xyz|u", "0 9": "xy|uv", "-1 -1": "xyzw|uv", "-1": "xyzw|", "2 0 5": "xyzw|"} {
		w := emitted(t, 2, tumbling(5))
		do(t, w, step(world.Open), step(world.Arm, 0))
		s := w.Store()
		check(t, "Append", s.Append("a", []byte("xy")), api.OK)
		check(t, "Sync", s.Sync("a"), api.OK)
		check(t, "Append", s.Append("a", []byte("zw")), api.OK)
		do(t, w, step(world.Arm, 1))
		check(t, "Append", s.Append("b", []byte("uv")), api.ErrCrash)
		var l []int
		for _, text := range strings.Fields(keep) {
			l = append(l, map[string]int{"0": 0, "1": 1, "2": 2, "5": 5, "9": 9, "-1": -1}[text])
		}
		had := slices.Clone(l)
		do(t, w, world.Step{Kind: world.Restart, Keep: l, N: 7, K: 9})
		a, _ := s.Read("a")
		b, _ := s.Read("b")
		if got := string(a) + "|" + string(b); got != want || w.Engine() != nil || !s.On() || w.Store() != s || !slices.Equal(l, had) {
			t.Errorf("keep %s: %s, not %s; engine %v", keep, got, want, w.Engine())
		}
		// With the power on it goes off and on as well, and nothing is armed.
		do(t, w, step(world.Open), step(world.Arm, 1), step(world.Restart))
		checkNoEngine(t, w)
		do(t, w, step(world.Open), step(world.Commit))
	}
}

// P20.1: Spoil: each file of the list, and beyond; each bit, and beyond; without power, too.
func TestSpoil(t *testing.T) {
	for _, off := range []bool{false, true} {
		w := emitted(t, 4, tumbling(5))
		checkRefused(t, w, step(world.Spoil, 0, 0), api.ErrArg)
		do(t, w, step(world.Seal, 4), step(world.Open))
		s := w.Store()
		if off {
			do(t, w, step(world.Arm, 1))
			check(t, "Commit", w.Do(step(world.Commit)), api.ErrCrash)
		}
		do(t, w, step(world.Restart), step(world.Open))
		for n, name := range s.List() {
			before := filesOf(t, s)
			size := 8 * len(before[name])
			for _, bit := range []int{0, 7, 8, size / 2, size - 1} {
				if off {
					do(t, w, step(world.Arm, 1))
					check(t, "Append", s.Append(name, nil), api.ErrCrash)
				}
				do(t, w, step(world.Spoil, n, bit))
				if off {
					check(t, "Restart", s.Restart(nil), api.OK)
				}
				want := []byte(before[name])
				want[bit/8] ^= 1 << (bit % 8)
				if p, _ := s.Read(name); string(p) != string(want) {
					t.Fatalf("%s, bit %d: %x, not %x", name, bit, p, want)
				}
				do(t, w, step(world.Spoil, n, bit))
			}
			for _, bit := range []int{-1, size, size + 1, math.MaxInt, math.MinInt} {
				checkRefused(t, w, step(world.Spoil, n, bit), api.ErrArg)
			}
		}
		for _, n := range []int{-1, len(s.List()), math.MaxInt, math.MinInt} {
			checkRefused(t, w, step(world.Spoil, n, 0), api.ErrArg)
		}
	}
}

// P20.1: steps of kinds that there aren't.
func TestOtherKinds(t *testing.T) {
	w := emitted(t, 4, tumbling(5))
	do(t, w, step(world.Seal, 2), step(world.Open), step(world.Deliver, 3))
	for kind := int(world.Spoil) + 1; kind < 256; kind++ {
		for n := range 3 {
			checkRefused(t, w, world.Step{Kind: byte(kind), E: at(1, "a", 1), N: n, K: n, Keep: []int{1}}, api.ErrArg)
		}
	}
}

// P20.1: what a step of its kind doesn't name plays no part.
func TestOtherFields(t *testing.T) {
	l := []world.Step{
		emit(at(3, "a", 1)), emit(at(5, "b", 2)), emit(at(14, "a", 4)), step(world.Seal, 1), step(world.Seal, 1), step(world.Compact, 0),
		step(world.Open), step(world.Deliver, 2), step(world.Commit), step(world.End), step(world.Commit), step(world.Spoil, 1, 9), step(world.Arm, 3), {Kind: world.Restart, Keep: []int{1}},
	}
	plain, other := newWorld(t, bigRoom, upTo(tumbling(5), 2), plan), newWorld(t, bigRoom, upTo(tumbling(5), 2), plan)
	for _, x := range l {
		do(t, plain, x)
		if x.Kind != world.Emit {
			x.E = api.Event{Offset: 9, Part: -7, Key: longest + longest}
		}
		if x.Kind != world.Restart {
			x.Keep = []int{-1, 5}
		}
		if !slices.Contains([]byte{world.Seal, world.Compact, world.Deliver, world.Arm, world.Spoil}, x.Kind) {
			x.N = -5
		}
		if x.Kind != world.Spoil {
			x.K = -9
		}
		do(t, other, x)
		if a, b := told(t, plain), told(t, other); a != b {
			t.Fatalf("%+v: %s\nnot %s", x, b, a)
		}
	}
}

// P20.1: of a nil world: ErrNone, nothing.
func TestNil(t *testing.T) {
	var w *world.World
	for kind := range 256 {
		for _, n := range []int{-1, 0, 1} {
			check(t, kind, w.Do(world.Step{Kind: byte(kind), N: n, K: n}), api.ErrNone)
		}
	}
	if len(w.Log()) > 0 || w.Store() != nil || w.Engine() != nil {
		t.Errorf("%v, %v, %v", w.Log(), w.Store(), w.Engine())
	}
	var s *files.Store = w.Store()
	check(t, "of its store", s.Arm(1), api.ErrNone)
	check(t, "of its engine", w.Engine().End(), api.ErrNone)
}

// Memory: the log that is answered may be written over, and stays as it is; so may a step be.
func TestMemory(t *testing.T) {
	w := emitted(t, 6, upTo(tumbling(5), 2))
	had := w.Log()
	for _, l := range [][]api.Event{w.Log(), w.Log()[:0]} {
		for i := range l[:cap(l)] {
			l[:cap(l)][i] = api.Event{Offset: 99, Key: "written over"}
		}
	}
	first := w.Log()[:3:6]
	do(t, w, emit(at(7, "more", 7)))
	_ = append(first, api.Event{Key: "written over"})
	if l := w.Log(); len(had) != 6 || !slices.EqualFunc(l[:6], had, sameEvent) || l[6].Key != "more" {
		t.Errorf("the log is %+v", l)
	}
	do(t, w, step(world.Seal, 3), step(world.Open), step(world.Deliver, 4), step(world.Commit))
	l := w.Engine().Waiting()
	do(t, w, step(world.Deliver, 6), step(world.Deliver, 5))
	if len(l) > 0 || len(w.Engine().Waiting()) == 0 {
		t.Errorf("%d wait", len(w.Engine().Waiting()))
	}
}
