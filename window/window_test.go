package window_test

import (
	"fmt"
	"math"
	"math/rand/v2"
	"slices"
	"testing"

	"headrace/api"
	"headrace/window"
)

// farthest is the greatest time of which the layer is promised; its negative is the least.
const farthest = 4 * api.MaxTime

func win(start, end int64) api.Window {
	return api.Window{Start: start, End: end}
}

func tumbling(size int64) api.Config {
	return api.Config{Kind: api.Tumbling, Size: size, Parts: 1}
}

func sliding(size, step int64) api.Config {
	return api.Config{Kind: api.Sliding, Size: size, Step: step, Parts: 1}
}

func session(size int64) api.Config {
	return api.Config{Kind: api.Session, Size: size, Parts: 1}
}

func late(c api.Config, by int64) api.Config {
	c.Late = by
	return c
}

// smallConfigs are all configs with small sizes, of which all times near 0 can be looked at.
func smallConfigs() []api.Config {
	var l []api.Config
	for size := int64(1); size <= 20; size++ {
		l = append(l, tumbling(size), session(size))
		for step := int64(1); step <= size; step++ {
			if size <= api.MaxShare*step {
				l = append(l, sliding(size, step))
			}
		}
	}
	return l
}

// anyConfig is a config with any size, small or great.
func anyConfig(r *rand.Rand) api.Config {
	size := 1 + r.Int64N(1<<r.IntN(31))
	c := api.Config{Kind: byte(r.IntN(3)), Size: size, Parts: 1 + r.IntN(api.MaxParts), Late: r.Int64N(1<<r.IntN(31)+1) - 1}
	if c.Kind == api.Sliding {
		least := (size + api.MaxShare - 1) / api.MaxShare
		c.Step = least + r.Int64N(size-least+1)
	}
	return c
}

// anyTime is a time within what is promised, often at or beside a multiple of a number.
func anyTime(r *rand.Rand, of int64) int64 {
	t := r.Int64N(2*farthest+1) - farthest
	if r.IntN(2) == 0 {
		t = t/of*of + r.Int64N(3) - 1
	}
	return max(-farthest, min(farthest, t))
}

// edgeTimes are times at multiples of a number, beside them, and at the ends of what is promised.
func edgeTimes(of int64) []int64 {
	l := []int64{-farthest, -farthest + 1, farthest - 1, farthest}
	for _, n := range []int64{-api.MaxTime / of, -3, -2, -1, 0, 1, 2, 3, api.MaxTime / of} {
		l = append(l, n*of-1, n*of, n*of+1)
	}
	return l
}

// below is a's remainder by b, from 0 on, told apart from the program.
func below(a, b int64) int64 {
	return (a%b + b) % b
}

// byLooking are the windows of a small config, found by looking at each start.
func byLooking(c api.Config, t int64) []api.Window {
	if c.Kind == api.Session {
		return []api.Window{win(t, t+c.Size)}
	}
	step := c.Step
	if c.Kind == api.Tumbling {
		step = c.Size
	}
	var l []api.Window
	for start := t - 50; start <= t+50; start++ {
		if below(start, step) == 0 && start <= t && t < start+c.Size {
			l = append(l, win(start, start+c.Size))
		}
	}
	return l
}

// lastByLooking is the end of the last window of a time, found by looking at starts back from the time.
func lastByLooking(c api.Config, t int64) int64 {
	step := map[byte]int64{api.Tumbling: c.Size, api.Sliding: c.Step, api.Session: 1}[c.Kind]
	start := t
	for below(start, step) != 0 {
		start--
	}
	return start + c.Size
}

func text(c api.Config) string {
	return fmt.Sprintf("Kind %d, Size %d, Step %d, Late %d", c.Kind, c.Size, c.Step, c.Late)
}

// P11.2: the chapter's example, and others written out.
func TestOfWrittenOut(t *testing.T) {
	for _, x := range []struct {
		c    api.Config
		t    int64
		want []api.Window
	}{
		{sliding(10, 4), 9, []api.Window{win(0, 10), win(4, 14), win(8, 18)}},
		{sliding(10, 4), 8, []api.Window{win(0, 10), win(4, 14), win(8, 18)}},
		{sliding(10, 4), 10, []api.Window{win(4, 14), win(8, 18)}},
		{sliding(10, 4), 7, []api.Window{win(0, 10), win(4, 14)}},
		{sliding(10, 4), 0, []api.Window{win(-8, 2), win(-4, 6), win(0, 10)}},
		{sliding(10, 4), -1, []api.Window{win(-8, 2), win(-4, 6)}},
		{sliding(10, 4), -3, []api.Window{win(-12, -2), win(-8, 2), win(-4, 6)}},
		{sliding(10, 5), 5, []api.Window{win(0, 10), win(5, 15)}},
		{sliding(10, 5), -5, []api.Window{win(-10, 0), win(-5, 5)}},
		{sliding(10, 10), 10, []api.Window{win(10, 20)}},
		{sliding(10, 10), 9, []api.Window{win(0, 10)}},
		{sliding(2, 1), 0, []api.Window{win(-1, 1), win(0, 2)}},
		{sliding(1, 1), -7, []api.Window{win(-7, -6)}},
		{tumbling(10), 0, []api.Window{win(0, 10)}},
		{tumbling(10), 9, []api.Window{win(0, 10)}},
		{tumbling(10), 10, []api.Window{win(10, 20)}},
		{tumbling(10), -1, []api.Window{win(-10, 0)}},
		{tumbling(10), -10, []api.Window{win(-10, 0)}},
		{tumbling(10), -11, []api.Window{win(-20, -10)}},
		{tumbling(1), 5, []api.Window{win(5, 6)}},
		{session(5), 3, []api.Window{win(3, 8)}},
		{session(5), -3, []api.Window{win(-3, 2)}},
		{session(1), 0, []api.Window{win(0, 1)}},
	} {
		if got := window.Of(x.c, x.t); !slices.Equal(got, x.want) {
			t.Errorf("%s, time %d: %v, not %v", text(x.c), x.t, got, x.want)
		}
	}
}

// P11.2: Of and Last of all small configs, at all times about 0, below it too.
func TestOfByLooking(t *testing.T) {
	for _, c := range smallConfigs() {
		for at := int64(-45); at <= 45; at++ {
			want := byLooking(c, at)
			if got := window.Of(c, at); !slices.Equal(got, want) {
				t.Fatalf("%s, time %d: Of = %v, not %v", text(c), at, got, want)
			}
			if got := window.Last(c, at); got != want[len(want)-1].End {
				t.Fatalf("%s, time %d: Last = %d, not that of %v", text(c), at, got, want)
			}
		}
	}
}

// checkOf looks that Of answers all windows in which a time is, rising, and Last the end of the last one.
func checkOf(t *testing.T, c api.Config, at int64) {
	t.Helper()
	l, last := window.Of(c, at), window.Last(c, at)
	if len(l) == 0 || len(l) > api.MaxShare || last != l[len(l)-1].End || c.Kind != api.Sliding && len(l) != 1 {
		t.Fatalf("%s, time %d: Of = %v, Last = %d", text(c), at, l, last)
	}
	step := map[byte]int64{api.Tumbling: c.Size, api.Sliding: c.Step, api.Session: 1}[c.Kind]
	for i, w := range l {
		if w.End != w.Start+c.Size || at < w.Start || at >= w.End || below(w.Start, step) != 0 || i > 0 && w.Start != l[i-1].Start+step {
			t.Fatalf("%s, time %d: %v", text(c), at, l)
		}
	}
	if c.Kind == api.Session {
		if l[0].Start != at {
			t.Fatalf("%s, time %d: %v", text(c), at, l)
		}
		return
	}
	// Neither the window ahead of the first one has the time, nor that behind the last.
	if l[0].Start-step+c.Size > at || l[len(l)-1].Start+step <= at {
		t.Fatalf("%s, time %d: not all of them: %v", text(c), at, l)
	}
}

// P11.2: great sizes and times, up to what is promised.
func TestOfGreat(t *testing.T) {
	var configs []api.Config
	for _, size := range []int64{1, 2, 3, 15, 16, 17, 1000, api.MaxSize - 1, api.MaxSize} {
		configs = append(configs, tumbling(size), session(size), sliding(size, size))
		for share := int64(1); share <= api.MaxShare; share++ {
			configs = append(configs, sliding(size, (size+share-1)/share))
		}
	}
	for _, c := range configs {
		for _, at := range slices.Concat(edgeTimes(c.Size), edgeTimes(max(1, c.Step))) {
			checkOf(t, c, at)
		}
	}
	r := rand.New(rand.NewPCG(11, 1))
	for range 20000 {
		c := anyConfig(r)
		checkOf(t, c, anyTime(r, max(c.Step, c.Size/2+1)))
	}
}

// P11.2: as many windows as there may be.
func TestMaxShare(t *testing.T) {
	c := sliding(api.MaxShare*7, 7)
	for at := int64(-300); at <= 300; at++ {
		if l := window.Of(c, at); len(l) != api.MaxShare {
			t.Fatalf("time %d: %v", at, l)
		}
	}
	if l := window.Of(sliding(api.MaxSize, api.MaxSize/api.MaxShare), api.MaxTime); len(l) != api.MaxShare {
		t.Errorf("%v", l)
	}
}

// What is answered may be written over.
func TestMemory(t *testing.T) {
	for _, c := range []api.Config{tumbling(10), sliding(10, 3), session(10)} {
		l := window.Of(c, 7)
		want := slices.Clone(l)
		clear(l[:cap(l)])
		if again := window.Of(c, 7); !slices.Equal(again, want) {
			t.Errorf("%s: %v, not %v", text(c), again, want)
		}
	}
}

// someWindows are windows that have a time, some that share ends, and at the ends of what there is.
var someWindows = []api.Window{
	win(0, 1), win(0, 5), win(0, 10), win(-5, 0), win(-5, 1), win(5, 10), win(10, 11), win(10, 20), win(1, 9), win(9, 10), win(-1, 11), win(-20, -10),
	win(math.MinInt64, math.MinInt64+1), win(math.MaxInt64-1, math.MaxInt64), win(math.MinInt64, math.MaxInt64), win(math.MinInt64, 0), win(0, math.MaxInt64),
	win(-farthest, farthest), win(farthest, farthest+api.MaxSize),
}

// P11.2: Meet, written out: windows that have one time together, and windows that only touch.
func TestMeetWrittenOut(t *testing.T) {
	for _, x := range []struct {
		a, b api.Window
		want bool
	}{
		{win(0, 10), win(9, 20), true},
		{win(0, 10), win(10, 20), false},
		{win(0, 10), win(11, 20), false},
		{win(0, 10), win(3, 4), true},
		{win(0, 10), win(0, 1), true},
		{win(0, 10), win(9, 10), true},
		{win(0, 10), win(0, 10), true},
		{win(0, 1), win(0, 1), true},
		{win(0, 1), win(1, 2), false},
		{win(-5, 0), win(0, 5), false},
		{win(-5, 1), win(0, 5), true},
		{win(math.MinInt64, 0), win(0, math.MaxInt64), false},
		{win(math.MinInt64, 1), win(0, math.MaxInt64), true},
		{win(math.MinInt64, math.MaxInt64), win(math.MaxInt64-1, math.MaxInt64), true},
		{win(math.MinInt64, math.MinInt64+1), win(math.MaxInt64-1, math.MaxInt64), false},
	} {
		if window.Meet(x.a, x.b) != x.want || window.Meet(x.b, x.a) != x.want {
			t.Errorf("Meet(%v, %v) = %v, %v", x.a, x.b, window.Meet(x.a, x.b), window.Meet(x.b, x.a))
		}
	}
}

// P11.2: Meet of all small windows, by their times.
func TestMeetByLooking(t *testing.T) {
	var l []api.Window
	for start := int64(-4); start <= 4; start++ {
		for end := start + 1; end <= 5; end++ {
			l = append(l, win(start, end))
		}
	}
	for _, a := range l {
		for _, b := range l {
			together := false
			for at := int64(-5); at <= 5; at++ {
				together = together || a.Start <= at && at < a.End && b.Start <= at && at < b.End
			}
			if window.Meet(a, b) != together {
				t.Errorf("Meet(%v, %v) = %v", a, b, !together)
			}
		}
	}
}

// P11.2: two times of sessions lie less than Size apart if their windows meet.
func TestMeetOfSessions(t *testing.T) {
	for size := int64(1); size <= 9; size++ {
		c := session(size)
		for apart := int64(0); apart <= 20; apart++ {
			a, b := window.Of(c, -7)[0], window.Of(c, -7+apart)[0]
			if window.Meet(a, b) != (apart < size) {
				t.Errorf("Size %d, %d apart: %v", size, apart, window.Meet(a, b))
			}
		}
	}
}

// P11.2: Join: from the lesser start to the greater end, whether they meet or not.
func TestJoin(t *testing.T) {
	for _, x := range []struct{ a, b, want api.Window }{
		{win(0, 10), win(5, 15), win(0, 15)},
		{win(0, 10), win(3, 4), win(0, 10)},
		{win(0, 10), win(10, 11), win(0, 11)},
		{win(-9, -8), win(4, 6), win(-9, 6)},
	} {
		if window.Join(x.a, x.b) != x.want || window.Join(x.b, x.a) != x.want {
			t.Errorf("Join(%v, %v) = %v, %v", x.a, x.b, window.Join(x.a, x.b), window.Join(x.b, x.a))
		}
	}
	for _, a := range someWindows {
		for _, b := range someWindows {
			want := win(slices.Min([]int64{a.Start, b.Start}), slices.Max([]int64{a.End, b.End}))
			if got := window.Join(a, b); got != want {
				t.Errorf("Join(%v, %v) = %v", a, b, got)
			}
		}
	}
}

// P11.2: Less: by the end, then by the start.
func TestLess(t *testing.T) {
	rising := []api.Window{
		win(math.MinInt64, math.MinInt64+1), win(math.MinInt64, 0), win(-5, 0), win(-1, 0), win(-5, 1), win(0, 1), win(-100, 2), win(math.MinInt64, 10), win(0, 10), win(9, 10), win(math.MinInt64, math.MaxInt64), win(0, math.MaxInt64),
	}
	for i, a := range rising {
		for j, b := range rising {
			if window.Less(a, b) != (i < j) {
				t.Errorf("Less(%v, %v) = %v", a, b, window.Less(a, b))
			}
		}
	}
}
