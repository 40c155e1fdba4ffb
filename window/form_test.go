package window_test

import (
	"math"
	"testing"

	"headrace/api"
	"headrace/window"
)

// forms are configs that have the form, one of each kind, to be changed in one thing each.
func forms() []api.Config {
	return []api.Config{
		{Kind: api.Tumbling, Size: 10, Late: 3, Skew: 2, Parts: 2, Cut: 9},
		{Kind: api.Sliding, Size: 10, Step: 4, Late: 3, Skew: 2, Parts: 2, Cut: 9},
		{Kind: api.Session, Size: 10, Late: 3, Skew: 2, Parts: 2, Cut: 9},
	}
}

// checkForm looks whether each of the forms, so changed, has the form.
func checkForm(t *testing.T, what string, change func(c *api.Config), want bool) {
	t.Helper()
	for _, c := range forms() {
		change(&c)
		if window.Form(c) != want {
			t.Errorf("%s: Form(%+v) = %v", what, c, !want)
		}
	}
}

// P11.1: each thing but kind, size and step, at its limits and one beyond.
func TestFormLimits(t *testing.T) {
	checkForm(t, "as it is", func(c *api.Config) {}, true)
	for late, want := range map[int64]bool{math.MinInt64: true, -api.MaxSize - 1: true, -1: true, 0: true, 1: true, 1 << 30: true, 1<<30 + 1: false, math.MaxInt64: false} {
		checkForm(t, "Late", func(c *api.Config) { c.Late = late }, want)
	}
	for skew, want := range map[int64]bool{math.MinInt64: false, -1: false, 0: true, 1: true, 1 << 30: true, 1<<30 + 1: false, math.MaxInt64: false} {
		checkForm(t, "Skew", func(c *api.Config) { c.Skew = skew }, want)
	}
	for parts, want := range map[int]bool{math.MinInt: false, -1: false, 0: false, 1: true, 8: true, 9: false, math.MaxInt: false} {
		checkForm(t, "Parts", func(c *api.Config) { c.Parts = parts }, want)
	}
	for cut, want := range map[uint64]bool{0: true, 1: true, 1 << 40: true, 1<<40 + 1: false, math.MaxUint64: false} {
		checkForm(t, "Cut", func(c *api.Config) { c.Cut = cut }, want)
	}
	for kind := range 256 {
		c := api.Config{Kind: byte(kind), Size: 10, Parts: 1}
		if window.Form(c) != (kind == 0 || kind == 2) {
			t.Errorf("Form(%+v) = %v", c, window.Form(c))
		}
		c.Step = 10
		if window.Form(c) != (kind == 1) {
			t.Errorf("Form(%+v) = %v", c, window.Form(c))
		}
	}
	if window.Form(api.Config{}) {
		t.Error("Form of a zero value")
	}
}

// P11.1: the size, of each kind; of Sliding with a step as great as it.
func TestFormSize(t *testing.T) {
	for size, want := range map[int64]bool{math.MinInt64: false, -1: false, 0: false, 1: true, 2: true, 1 << 30: true, 1<<30 + 1: false, 1 << 60: false, math.MaxInt64: false} {
		checkForm(t, "Size", func(c *api.Config) {
			c.Size = size
			if c.Kind == api.Sliding {
				c.Step = size
			}
		}, want)
	}
}

// P11.1: the step: 0 of Tumbling and Session; of Sliding 1 to Size, and Size at most MaxShare of it.
func TestFormStep(t *testing.T) {
	for _, c := range []api.Config{tumbling(10), session(10)} {
		for _, step := range []int64{math.MinInt64, -1, 1, 4, 10, 11, math.MaxInt64} {
			c.Step = step
			if window.Form(c) {
				t.Errorf("Form(%+v)", c)
			}
		}
	}
	for _, x := range []struct {
		size, step int64
		want       bool
	}{
		{10, math.MinInt64, false},
		{10, -10, false},
		{10, -1, false},
		{10, 0, false},
		{10, 1, true},
		{10, 9, true},
		{10, 10, true},
		{10, 11, false},
		{10, math.MaxInt64, false},
		{1, 1, true},
		{1, 2, false},
		{15, 1, true},
		{16, 1, true},
		{17, 1, false},
		{17, 2, true},
		{32, 2, true},
		{33, 2, false},
		{33, 3, true},
		{112, 7, true},
		{113, 7, false},
		{1 << 30, 1 << 26, true},
		{1 << 30, 1<<26 - 1, false},
		{1 << 30, 1 << 30, true},
		{1 << 30, 1<<30 + 1, false},
		{1 << 30, 1 << 60, false},
		{1<<30 + 1, 1 << 30, false},
		{0, 0, false},
		{0, 1, false},
		{-1, -1, false},
		{math.MinInt64, math.MinInt64, false},
		{math.MaxInt64, math.MaxInt64, false},
		{math.MaxInt64, 1 << 59, false},
	} {
		if c := sliding(x.size, x.step); window.Form(c) != x.want {
			t.Errorf("Size %d, Step %d: %v", x.size, x.step, !x.want)
		}
	}
}

// P1: each call ends and none panics, at all arguments.
func TestAllArguments(t *testing.T) {
	ints := []int64{math.MinInt64, math.MinInt64 + 1, -1 << 40, -1, 0, 1, 16, 17, 1 << 30, 1 << 40, math.MaxInt64 - 1, math.MaxInt64}
	for _, kind := range []byte{0, 1, 2, 3, 255} {
		for _, size := range ints {
			for _, step := range ints {
				for _, late := range []int64{math.MinInt64, 0, math.MaxInt64} {
					for _, parts := range []int{0, 1} {
						c := api.Config{Kind: kind, Size: size, Step: step, Late: late, Parts: parts}
						window.Form(c)
						for _, at := range ints {
							window.Last(c, at)
							if l := window.Of(c, at); len(l) > api.MaxShare {
								t.Fatalf("%s, time %d: %d windows", text(c), at, len(l))
							}
							for _, mark := range ints {
								window.Late(c, at, mark)
								window.Dead(c, win(at, mark), size)
							}
						}
					}
				}
			}
		}
	}
	for _, a := range ints {
		for _, b := range ints {
			w := win(a, b)
			window.Meet(w, api.Window{})
			window.Join(w, api.Window{})
			window.Less(w, api.Window{})
		}
	}
}
