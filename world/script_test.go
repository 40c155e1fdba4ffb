package world_test

import (
	"fmt"
	"math/rand/v2"
	"slices"
	"testing"

	"headrace/api"
	"headrace/sorter"
	"headrace/whole"
	"headrace/world"
)

// anyStep is a step of any kind, most often one that can be done.
func anyStep(r *rand.Rand, w *world.World, c api.Config) world.Step {
	any := func(n int) int {
		if r.IntN(12) == 0 {
			return []int{-1, n, n + 1, n + 100}[r.IntN(4)]
		}
		return r.IntN(max(n, 1))
	}
	names := w.Store().List()
	switch r.IntN(30) {
	case 0, 1, 2, 3, 4, 5:
		e := anyEvent(r, c.Parts, int64(len(w.Log()))*2)
		if r.IntN(20) == 0 {
			e.Part = c.Parts
		}
		return emit(e)
	case 6, 7:
		return step(world.Seal, 1+any(8))
	case 8:
		return step(world.Compact, any(4))
	case 9, 10, 11:
		return step(world.Open)
	case 12, 13, 14, 15, 16, 17, 18, 19, 20, 21:
		return step(world.Deliver, any(len(w.Log())))
	case 22:
		if r.IntN(6) > 0 {
			return step(world.Deliver, len(w.Log())-1)
		}
		return step(world.End)
	case 23, 24:
		return step(world.Commit)
	case 25:
		return step(world.Arm, any(25))
	case 26, 27:
		if w.Store().On() && r.IntN(2) == 0 {
			return step(world.Deliver, any(len(w.Log())))
		}
		keep := make([]int, r.IntN(12))
		for i := range keep {
			keep[i] = r.IntN(200) - 20
		}
		return world.Step{Kind: world.Restart, Keep: keep}
	case 28:
		if r.IntN(8) == 0 {
			return step(world.Spoil, any(len(names)), any(900))
		}
		return step(world.Open)
	}
	if r.IntN(4) == 0 {
		return world.Step{Kind: world.Spoil + 1 + byte(r.IntN(200)), N: any(9)}
	}
	return step(world.Commit)
}

// P20.1: whatever steps are done, in whatever order, all that is told is what the chapter's words come to.
func TestAnySteps(t *testing.T) {
	told := map[string]int{}
	for seed := range uint64(250) {
		r := rand.New(rand.NewPCG(200, seed))
		c := upTo(anyConfig(r), r.IntN(6))
		p := sorter.Plan{Hold: 1 + r.IntN(6), Fan: 2 + r.IntN(3)}
		room := []int{bigRoom, 3000 + r.IntN(20000), 1 + r.IntN(2000)}[r.IntN(3)]
		w, m := newWorld(t, room, c, p), newModel(t, room, c, p)
		for i := range 120 {
			x := anyStep(r, w, c)
			keep := slices.Clone(x.Keep)
			want := m.do(x)
			check(t, fmt.Sprintf("seed %d, step %d: %+v", seed, i, x), w.Do(x), want)
			if !slices.Equal(x.Keep, keep) {
				t.Fatalf("seed %d: Keep has changed", seed)
			}
			told[fmt.Sprint(min(x.Kind, world.Spoil+1), " ", want)]++
			// The step may be written over.
			for j := range x.Keep {
				x.Keep[j] = 7
			}
			checkWorld(t, fmt.Sprintf("seed %d, behind step %d: %+v", seed, i, x), w, m)
		}
	}
	for _, x := range []string{
		"0 0", "0 3", "1 0", "1 1", "1 9", "1 10", "2 0", "2 1", "2 9", "3 0", "3 8", "3 9", "3 10", "4 0", "4 1", "4 5", "4 6", "4 9", "4 11", "4 12",
		"5 0", "5 5", "5 11", "6 0", "6 5", "6 9", "6 10", "7 0", "7 1", "8 0", "9 0", "9 1", "10 1",
	} {
		if told[x] == 0 {
			t.Errorf("no step of kind and error %s", x)
		}
	}
}

// closing has all that is left of a world's log come, and committed.
func closing(t *testing.T, w *world.World, order []int) {
	t.Helper()
	do(t, w, step(world.Restart), step(world.Open))
	for _, n := range order {
		if e := w.Do(step(world.Deliver, n)); e != api.OK && e != api.ErrTwice && e != api.ErrStale {
			t.Fatalf("Deliver %d: error %d", n, e)
		}
	}
	do(t, w, step(world.End), step(world.Commit))
}

// P4, P6: behind a script with falls anywhere, all events that come, End and Commit, the ledger's view is whole.Panes of the log, where nothing is ever late.
func TestWholeOfScripts(t *testing.T) {
	for seed := range uint64(150) {
		r := rand.New(rand.NewPCG(201, seed))
		c := anyConfig(r)
		c.Late = -1
		c.Cut = uint64(r.IntN(8))
		w := newWorld(t, api.MaxStore, c, plan)
		for w.Store().On() && len(w.Log()) < 10 {
			do(t, w, emit(anyEvent(r, c.Parts, int64(len(w.Log())))))
		}
		do(t, w, step(world.Seal, int(max(c.Cut, 1))))
		for range 100 {
			x := anyStep(r, w, c)
			if x.Kind == world.Spoil || x.Kind == world.End {
				continue
			}
			w.Do(x)
		}
		closing(t, w, r.Perm(len(w.Log())))
		if view := w.Engine().Ledger().View(); !slices.EqualFunc(view, whole.Panes(c, w.Log()), samePane) || len(view) == 0 {
			t.Fatalf("seed %d, %+v: %+v\nnot %+v", seed, c, view, whole.Panes(c, w.Log()))
		}
	}
}

// P6, P5: a script with the power going off in each operation, by Arm and Restart; behind it all comes again: the ledger is that of the script without.
func TestEachFall(t *testing.T) {
	c := upTo(with(tumbling(5), 6, 2, 1), 4)
	script := []world.Step{
		step(world.Seal, 3), step(world.Seal, 2), step(world.Compact, 0), step(world.Open),
		step(world.Deliver, 5), step(world.Deliver, 4), step(world.Commit), step(world.Deliver, 7), step(world.Deliver, 6), step(world.Commit), step(world.Seal, 2), step(world.Deliver, 8), step(world.Deliver, 9),
		step(world.End), step(world.Commit),
	}
	var want string
	for n := 0; ; n++ {
		w := emitted(t, 10, c)
		do(t, w, step(world.Arm, n))
		fell := false
		for i := 0; i < len(script); i++ {
			e := w.Do(script[i])
			if w.Store().On() {
				// What comes again may be there.
				if e != api.OK && (!fell || e != api.ErrTwice && e != api.ErrState && script[i].Kind != world.Seal && script[i].Kind != world.Compact) {
					t.Fatalf("off in operation %d, step %d: error %d", n, i, e)
				}
				continue
			}
			check(t, script[i], e, api.ErrCrash)
			fell = true
			do(t, w, world.Step{Kind: world.Restart, Keep: []int{n % 5, -1, n, 0, 3}})
			i = -1
		}
		do(t, w, step(world.Arm, 0))
		got := fmt.Sprint(w.Engine().Ledger().All())
		if n == 0 {
			want = got
		}
		if got != want {
			t.Fatalf("off in operation %d: %s\nnot %s", n, got, want)
		}
		if n > 0 && !fell {
			if n < 40 {
				t.Errorf("%d operations", n)
			}
			return
		}
	}
}

// P2: the same script comes to the same, whatever is asked between.
func TestSameAgain(t *testing.T) {
	for seed := range uint64(20) {
		var first string
		for asked := range 2 {
			r := rand.New(rand.NewPCG(202, seed))
			c := upTo(anyConfig(r), r.IntN(4))
			w := newWorld(t, bigRoom, c, plan)
			var errs []api.Errno
			for range 100 {
				errs = append(errs, w.Do(anyStep(r, w, c)))
				if asked > 0 {
					told(t, w)
				}
			}
			if all := fmt.Sprint(errs, told(t, w)); asked == 0 {
				first = all
			} else if all != first {
				t.Fatalf("seed %d: %s\nnot %s", seed, all, first)
			}
		}
	}
}

// P1: steps of all kinds, read off bytes, come to what the chapter's words come to, and none panics.
func FuzzDo(f *testing.F) {
	f.Add([]byte{0, 3, 0, 5, 1, 2, 3, 0, 4, 1, 5, 0, 6, 0}, 1<<16, byte(0))
	f.Add([]byte{0, 3, 0, 5, 0, 9, 1, 1, 1, 1, 2, 0, 7, 4, 3, 0, 8, 5, 3, 0, 4, 2, 6, 0, 9, 1}, 1<<16, byte(7))
	f.Add([]byte{0, 1, 3, 0, 4, 0, 6, 0, 255, 9, 3, 0}, 100, byte(30))
	f.Fuzz(func(t *testing.T, script []byte, room int, config byte) {
		if _, e := world.New(room, tumbling(5), plan); e != api.OK || len(script) > 400 {
			return
		}
		c := []api.Config{tumbling(5), session(3), {Kind: api.Sliding, Size: 8, Step: 3, Parts: 2}, with(session(4), -1, 2, 2), {}}[config%5]
		c.Cut = uint64(config / 5 % 4)
		w, m := newWorld(t, room, c, plan), newModel(t, room, c, plan)
		for i := 0; i+1 < len(script); i += 2 {
			n := int(script[i+1])
			x := world.Step{
				Kind: script[i] % 12,
				E:    api.Event{Part: n % 2, Time: int64(n % 50), Key: string(rune('a' + n%3)), Val: float64(n)},
				N:    n%18 - 1,
				K:    n * 3,
				Keep: []int{n, n - 100, 3},
			}
			check(t, x, w.Do(x), m.do(x))
		}
		checkWorld(t, script, w, m)
	})
}
