package whole_test

import (
	"math"
	"math/rand/v2"
	"slices"
	"testing"

	"headrace/agg"
	"headrace/api"
	"headrace/whole"
)

// risen are groups without values, each of which stands ahead of the next one.
func risen() []whole.Group {
	return []whole.Group{
		{Key: "", W: win(math.MinInt64, math.MinInt64)},
		{Key: "", W: win(math.MinInt64, math.MaxInt64)},
		{Key: "", W: win(-api.MaxTime, 0)},
		{Key: "", W: win(-10, -5)},
		{Key: "", W: win(-10, 0)},
		{Key: "", W: win(-10, 10)},
		{Key: "", W: win(0, -1)},
		{Key: "", W: win(0, 0)},
		{Key: "", W: win(0, 9)},
		{Key: "", W: win(0, 10)},
		{Key: "", W: win(1, 2)},
		{Key: "", W: win(math.MaxInt64, math.MinInt64)},
		{Key: "\x00", W: win(-5, 5)},
		{Key: "A", W: win(100, 110)},
		{Key: "a", W: win(0, 10)},
		{Key: "a", W: win(0, 20)},
		{Key: "a", W: win(9, 10)},
		{Key: "a\x00", W: win(-100, 0)},
		{Key: "aa", W: win(-200, 0)},
		{Key: "ab", W: win(-300, 0)},
		{Key: "b", W: win(-400, 0)},
		{Key: "é", W: win(0, 1)},
		{Key: "\xf0", W: win(0, 1)},
		{Key: longest[:api.MaxKey-1], W: win(0, 10)},
		{Key: longest, W: win(-api.MaxTime, api.MaxTime)},
		{Key: longest, W: win(0, 10)},
		{Key: longest + "\x00", W: win(0, 0)},
	}
}

// P13.1: Order of any two keys and windows, of those too that differ in one thing alone.
func TestOrder(t *testing.T) {
	l := risen()
	for i, a := range l {
		for k, b := range l {
			want := 0
			if i < k {
				want = -1
			}
			if i > k {
				want = 1
			}
			if got := whole.Order(a.Key, a.W, b.Key, b.W); got != want {
				t.Errorf("Order(%q, %v, %q, %v) = %d, not %d", a.Key, a.W, b.Key, b.W, got, want)
			}
		}
	}
}

// P13.1: Order of windows that differ in their ends alone, and of ends that say otherwise than starts and keys.
func TestOrderOfEnds(t *testing.T) {
	for _, x := range []struct {
		ak   string
		a    api.Window
		bk   string
		b    api.Window
		want int
	}{
		{"k", win(3, 7), "k", win(3, 8), -1},
		{"k", win(3, 8), "k", win(3, 7), 1},
		{"k", win(3, 8), "k", win(3, 8), 0},
		{"k", win(3, 9), "k", win(4, 5), -1},
		{"k", win(4, 5), "k", win(3, 9), 1},
		{"j", win(4, 5), "k", win(3, 4), -1},
		{"k", win(3, 4), "j", win(4, 5), 1},
		{"", win(0, 0), "", win(0, 0), 0},
	} {
		if got := whole.Order(x.ak, x.a, x.bk, x.b); got != x.want {
			t.Errorf("Order(%q, %v, %q, %v) = %d, not %d", x.ak, x.a, x.bk, x.b, got, x.want)
		}
	}
}

// P13.1: Sort puts groups in their order, each with its values.
func TestSort(t *testing.T) {
	want := risen()
	for i := range want {
		want[i].S = agg.State{}.Add(float64(i))
	}
	r := rand.New(rand.NewPCG(13, 1))
	for n := range 200 {
		l := slices.Clone(want)
		switch n {
		case 0:
		case 1:
			slices.Reverse(l)
		default:
			r.Shuffle(len(l), func(i, k int) { l[i], l[k] = l[k], l[i] })
		}
		whole.Sort(l)
		if !slices.EqualFunc(l, want, sameGroup) {
			t.Fatalf("sorted %v", l)
		}
	}
}

// P13.1: Sort of few groups, and of some that stand alike.
func TestSortOfFew(t *testing.T) {
	whole.Sort(nil)
	whole.Sort([]whole.Group{})
	one := []whole.Group{{Key: "a", W: win(1, 2), S: agg.State{}.Add(3)}}
	whole.Sort(one)
	if one[0].Key != "a" || one[0].W != win(1, 2) || one[0].S.Value().Sum != 3 {
		t.Errorf("sorted %v", one)
	}
	r := rand.New(rand.NewPCG(13, 2))
	for n := range 100 {
		l := make([]whole.Group, n)
		counts := map[string]int{}
		for i := range l {
			l[i] = whole.Group{Key: string(rune('a' + r.IntN(3))), W: win(r.Int64N(3), r.Int64N(3)), S: agg.State{}.Add(float64(i))}
			counts[string(agg.Lay([]byte(l[i].Key), l[i].S))]++
		}
		whole.Sort(l)
		for i, g := range l {
			counts[string(agg.Lay([]byte(g.Key), g.S))]--
			if i > 0 && order(l[i-1].Key, l[i-1].W, g.Key, g.W) > 0 {
				t.Fatalf("%v doesn't stand behind %v", l[i-1], g)
			}
		}
		for _, count := range counts {
			if count != 0 {
				t.Fatalf("not the groups that were there: %v", l)
			}
		}
	}
}

// Sort changes no more than the list that it is handed.
func TestSortStaysWithin(t *testing.T) {
	room := risen()
	slices.Reverse(room)
	want := slices.Clone(room)
	slices.Reverse(want[5:9])
	whole.Sort(room[5:9])
	if !slices.EqualFunc(room, want, sameGroup) {
		t.Errorf("sorted %v", room)
	}
}

// P13.1: what Sort does with groups, Groups has done already.
func TestSortOfGroups(t *testing.T) {
	r := rand.New(rand.NewPCG(13, 3))
	for range 100 {
		want := whole.Groups(anyConfig(r), someEvents(r, 40, 0, 60))
		l := slices.Clone(want)
		whole.Sort(l)
		if !slices.EqualFunc(l, want, sameGroup) {
			t.Fatalf("%v isn't sorted", want)
		}
		r.Shuffle(len(l), func(i, k int) { l[i], l[k] = l[k], l[i] })
		whole.Sort(l)
		if !slices.EqualFunc(l, want, sameGroup) {
			t.Fatalf("sorted %v, not %v", l, want)
		}
	}
}
