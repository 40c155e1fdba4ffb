package window_test

import (
	"math"
	"math/rand/v2"
	"testing"

	"headrace/api"
	"headrace/window"
)

// P11.3: Late, written out: at Last + Late, and one above.
func TestLateWrittenOut(t *testing.T) {
	for _, x := range []struct {
		c    api.Config
		t    int64
		last int64
	}{
		{tumbling(10), 0, 10},
		{tumbling(10), 9, 10},
		{tumbling(10), 10, 20},
		{tumbling(10), -1, 0},
		{tumbling(10), -10, 0},
		{tumbling(10), -11, -10},
		{sliding(10, 4), 9, 18},
		{sliding(10, 4), 8, 18},
		{sliding(10, 4), 7, 14},
		{sliding(10, 4), -1, 6},
		{session(5), 3, 8},
		{session(5), -3, 2},
	} {
		for _, by := range []int64{0, 1, 7, api.MaxSize} {
			c := late(x.c, by)
			if window.Late(c, x.t, x.last+by) || !window.Late(c, x.t, x.last+by+1) {
				t.Errorf("%s, time %d, at %d: %v, one above: %v", text(c), x.t, x.last+by, window.Late(c, x.t, x.last+by), window.Late(c, x.t, x.last+by+1))
			}
			for _, mark := range []int64{-farthest, x.t - 1, x.t, x.last - 1, x.last} {
				if window.Late(c, x.t, mark) {
					t.Errorf("%s, time %d, mark %d", text(c), x.t, mark)
				}
			}
			if !window.Late(c, x.t, farthest) {
				t.Errorf("%s, time %d, the farthest mark", text(c), x.t)
			}
		}
	}
}

// P11.3: where Late is below 0, nothing is late, and no window dead.
func TestNeverLate(t *testing.T) {
	for _, by := range []int64{-1, -2, -api.MaxSize, math.MinInt64} {
		for _, c := range []api.Config{late(tumbling(10), by), late(sliding(10, 4), by), late(session(10), by)} {
			for _, at := range []int64{-farthest, -1, 0, 9, farthest} {
				for _, mark := range []int64{-farthest, at, farthest} {
					if window.Late(c, at, mark) || window.Dead(c, window.Of(c, at)[0], mark) {
						t.Errorf("%s, time %d, mark %d", text(c), at, mark)
					}
				}
			}
		}
	}
}

// P11.3: Late of small configs, by the last of the windows that there are, at all marks about it.
func TestLateByLooking(t *testing.T) {
	for _, c := range smallConfigs() {
		for by := int64(-1); by <= 3; by++ {
			c := late(c, by)
			for at := int64(-25); at <= 25; at++ {
				end := lastByLooking(c, at)
				for mark := at - 3; mark <= at+50; mark++ {
					want := by >= 0 && mark > end+by
					if window.Late(c, at, mark) != want {
						t.Fatalf("%s, time %d, mark %d: %v", text(c), at, mark, !want)
					}
				}
			}
		}
	}
}

// dead tells, by looking at each time that is in a window, or whose session meets it, whether all of them are late; apart from the program.
func dead(c api.Config, w api.Window, mark int64) bool {
	from := w.Start
	if c.Kind == api.Session {
		from = w.Start - c.Size + 1
	}
	for at := from; at < w.End; at++ {
		if mark <= lastByLooking(c, at)+c.Late {
			return false
		}
	}
	return c.Late >= 0
}

// checkDead holds Dead of a window against what is found by looking, at all marks about it.
func checkDead(t *testing.T, c api.Config, w api.Window) {
	t.Helper()
	for mark := w.Start - 2; mark <= w.End+45; mark++ {
		if want := dead(c, w, mark); window.Dead(c, w, mark) != want {
			t.Fatalf("%s, window %v, mark %d: %v", text(c), w, mark, !want)
		}
	}
}

// P11.3: Dead of small configs, of windows that Of makes, and Join of such.
func TestDeadByLooking(t *testing.T) {
	for i, c := range smallConfigs() {
		c := late(c, int64(i%4))
		for at := int64(-8); at <= 4; at += 3 {
			for _, w := range window.Of(c, at) {
				checkDead(t, c, w)
			}
			checkDead(t, c, window.Join(window.Of(c, at)[0], window.Of(c, at+c.Size-1)[0]))
			checkDead(t, c, window.Join(window.Of(c, at)[0], window.Of(c, at+30)[0]))
		}
	}
}

// P11.3: Dead, written out: of Sliding a window is dead behind the last window of its last time, of a session behind what may still meet it.
func TestDeadWrittenOut(t *testing.T) {
	for _, x := range []struct {
		c api.Config
		w api.Window
		// until is the last mark at which it isn't dead, but for Late.
		until int64
	}{
		{tumbling(10), win(0, 10), 10},
		{tumbling(10), win(-10, 0), 0},
		{tumbling(1), win(-1, 0), 0},
		{sliding(10, 4), win(0, 10), 18},
		{sliding(10, 4), win(4, 14), 22},
		{sliding(10, 5), win(0, 10), 15},
		{sliding(10, 10), win(0, 10), 10},
		{sliding(10, 4), win(-8, 2), 10},
		{session(5), win(0, 5), 9},
		{session(5), win(-20, 5), 9},
		{session(1), win(0, 1), 1},
		{session(1), win(0, 2), 2},
	} {
		for _, by := range []int64{0, 1, api.MaxSize} {
			c := late(x.c, by)
			if window.Dead(c, x.w, x.until+by) || !window.Dead(c, x.w, x.until+by+1) {
				t.Errorf("%s, window %v, mark %d: %v, one above: %v", text(c), x.w, x.until+by, window.Dead(c, x.w, x.until+by), window.Dead(c, x.w, x.until+by+1))
			}
		}
	}
}

// P11.3: great sizes and times: Late hangs on Last, Dead on the last time of a window.
func TestLateGreat(t *testing.T) {
	r := rand.New(rand.NewPCG(11, 2))
	for range 20000 {
		c := anyConfig(r)
		at := anyTime(r, c.Size)
		end := window.Last(c, at) + c.Late
		if window.Late(c, at, end) || window.Late(c, at, end+1) != (c.Late >= 0) {
			t.Fatalf("%s, time %d", text(c), at)
		}
		l := window.Of(c, at)
		w := l[r.IntN(len(l))]
		end = window.Last(c, w.End-1) + c.Late
		if window.Dead(c, w, end) || window.Dead(c, w, end+1) != (c.Late >= 0) {
			t.Fatalf("%s, window %v", text(c), w)
		}
		if mark := anyTime(r, c.Size); window.Dead(c, w, mark) && !window.Late(c, at, mark) {
			t.Fatalf("%s, window %v, mark %d: dead, and %d isn't late", text(c), w, mark, at)
		}
	}
}

// P11.1, P11.3: Skew, Parts and Cut play no part in windows.
func TestOtherThings(t *testing.T) {
	for _, c := range []api.Config{tumbling(10), sliding(10, 4), session(10)} {
		other := c
		other.Skew, other.Parts, other.Cut = api.MaxSize, api.MaxParts, api.MaxOffset
		for at := int64(-20); at <= 20; at++ {
			if window.Last(c, at) != window.Last(other, at) || window.Late(c, at, at+15) != window.Late(other, at, at+15) || len(window.Of(c, at)) != len(window.Of(other, at)) {
				t.Errorf("%s, time %d", text(c), at)
			}
		}
	}
}
