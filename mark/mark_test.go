package mark_test

import (
	"fmt"
	"math"
	"math/rand/v2"
	"slices"
	"testing"

	"headrace/api"
	"headrace/mark"
)

// P14.1: the chapter's example.
func TestExample(t *testing.T) {
	m := newMarks(t, 2).See(0, 5).See(1, 3)
	if low, ok := m.Low(); low != 3 || !ok {
		t.Errorf("Low = %d, %v", low, ok)
	}
	for part, want := range []int64{5, 3} {
		if x, ok := m.Of(part); x != want || !ok {
			t.Errorf("Of(%d) = %d, %v", part, x, ok)
		}
	}
}

// P14.1: of 1 to MaxParts partitions nothing was seen.
func TestNew(t *testing.T) {
	for parts := 1; parts <= api.MaxParts; parts++ {
		m, e := mark.New(parts)
		if e != api.OK {
			t.Fatalf("New(%d): error %d", parts, e)
		}
		check(t, "New", m, model{parts: parts})
		if again := newMarks(t, parts); m != again {
			t.Errorf("New(%d) isn't New(%d)", parts, parts)
		}
		if m == (mark.Marks{}) {
			t.Errorf("New(%d) is of no partitions", parts)
		}
	}
}

// P14.1: other numbers of partitions, and zero values beside the error.
func TestNewErrArg(t *testing.T) {
	for _, parts := range []int{0, -1, -2, -api.MaxParts, math.MinInt, api.MaxParts + 1, api.MaxParts + 2, 256, 257, 1 << 31, 1<<32 + 1, math.MaxInt} {
		if m, e := mark.New(parts); e != api.ErrArg || m != (mark.Marks{}) {
			t.Errorf("New(%d) = %v, error %d", parts, m, e)
		}
	}
}

// P14.1: of zero values there are no partitions, whatever is seen.
func TestZeroValues(t *testing.T) {
	var m mark.Marks
	check(t, "zero values", m, model{})
	for part := -1; part <= api.MaxParts; part++ {
		for _, at := range times {
			if got := m.See(part, at); got != m {
				t.Errorf("See(%d, %d) = %v", part, at, got)
			}
		}
	}
	for parts := 1; parts <= api.MaxParts; parts++ {
		some := newMarks(t, parts).See(0, 7)
		if got := m.Join(some); got != m {
			t.Errorf("zero values, and some of %d partitions: %v", parts, got)
		}
		if got := some.Join(m); got != some {
			t.Errorf("some of %d partitions, and zero values: %v", parts, got)
		}
	}
	if m.Join(m) != m {
		t.Error("zero values joined")
	}
}

// P14.1: the first time of a partition is seen, whatever it is: 0, too, and the least there is.
func TestSeeFirst(t *testing.T) {
	for parts := 1; parts <= api.MaxParts; parts++ {
		for part := range parts {
			for _, at := range times {
				m := newMarks(t, parts)
				got := m.See(part, at)
				check(t, "the first time", got, model{parts, []seen{{part, at}}})
				if got == m {
					t.Errorf("%d partitions: See(%d, %d) tells nothing", parts, part, at)
				}
				check(t, "what it was told to", m, model{parts: parts})
			}
		}
	}
}

// P14.1: a time below, at and above the greatest one, of all kinds.
func TestSeeSecond(t *testing.T) {
	for _, first := range times {
		for _, second := range times {
			for part := range 3 {
				m := newMarks(t, 3).See(part, first)
				got := m.See(part, second)
				check(t, "two times", got, model{3, []seen{{part, first}, {part, second}}})
				if (got == m) != (second <= first) {
					t.Errorf("%d, then %d: the same marks: %v", first, second, got == m)
				}
			}
		}
		for _, near := range []int64{first - 1, first, first + 1} {
			m := newMarks(t, 1).See(0, first).See(0, near)
			check(t, "a near time", m, model{1, []seen{{0, first}, {0, near}}})
		}
	}
}

// P14.1: of a partition that there isn't nothing is seen.
func TestSeeOfNone(t *testing.T) {
	for parts := 1; parts <= api.MaxParts; parts++ {
		empty := newMarks(t, parts)
		some := empty.See(parts-1, -5)
		for _, part := range append([]int{parts, parts + 1}, none...) {
			for _, at := range times {
				if empty.See(part, at) != empty || some.See(part, at) != some {
					t.Errorf("%d partitions: See(%d, %d) isn't the same", parts, part, at)
				}
			}
		}
	}
}

// P14.1: marks are values: what is seen changes no others.
func TestSeeIsOfValues(t *testing.T) {
	m := newMarks(t, 2).See(0, 1)
	copied := m
	a, b := m.See(0, 5).See(1, 7), m.See(1, 9)
	check(t, "one", a, model{2, []seen{{0, 5}, {1, 7}}})
	check(t, "another one", b, model{2, []seen{{0, 1}, {1, 9}}})
	check(t, "both of which come from", m, model{2, []seen{{0, 1}}})
	if copied != m || a == b || a == m {
		t.Errorf("%v, %v, %v, %v", copied, m, a, b)
	}
	joined := a.Join(b)
	check(t, "joined", joined, model{2, []seen{{0, 5}, {1, 9}}})
	check(t, "what was joined", a, model{2, []seen{{0, 5}, {1, 7}}})
	check(t, "what it was joined with", b, model{2, []seen{{0, 1}, {1, 9}}})
}

// P14.1: the same marks are one by ==, in whichever order they were reached.
func TestSameInAnyOrder(t *testing.T) {
	for _, l := range [][]seen{
		{{0, 3}, {1, 0}, {0, 5}, {2, -1}, {1, -4}},
		{{0, 0}, {0, 0}, {1, 0}, {2, 0}},
		{{2, 7}, {2, -7}, {-1, 4}, {3, 4}, {0, math.MinInt64}},
		{{1, math.MinInt64}, {1, math.MaxInt64}, {1, 0}, {1, -1}},
	} {
		want := model{3, slices.Clone(l)}.marks(t)
		counts := map[mark.Marks]int{}
		permuted(l, func(l []seen) {
			m := model{3, l}
			check(t, "another order", m.marks(t), m)
			if m.marks(t) != want {
				t.Errorf("%+v: other marks", l)
			}
			counts[m.marks(t)]++
			for cut := range l {
				a, b := model{3, l[:cut]}.marks(t), model{3, l[cut:]}.marks(t)
				if a.Join(b) != want || b.Join(a) != want {
					t.Errorf("%+v, cut at %d: other marks", l, cut)
				}
			}
		})
		if len(counts) != 1 {
			t.Errorf("%+v: %d marks, as a map's keys", l, len(counts))
		}
	}
}

// P14.1: marks of which other things were seen are two by ==.
func TestOthersAreTwo(t *testing.T) {
	var l []mark.Marks
	var what []string
	for parts := 0; parts <= api.MaxParts; parts++ {
		m := newMarks(t, parts)
		l, what = append(l, m), append(what, fmt.Sprintf("%d partitions", parts))
		for part := range parts {
			for _, at := range []int64{0, 1, -1, api.MaxTime, -api.MaxTime} {
				l, what = append(l, m.See(part, at)), append(what, fmt.Sprintf("%d partitions, %d of the %d-th", parts, at, part))
			}
		}
	}
	for i, a := range l {
		for k, b := range l {
			if (a == b) != (i == k) {
				t.Errorf("%s, %s: the same: %v", what[i], what[k], a == b)
			}
		}
	}
}

// P14.1: Join with marks of as many, of fewer, of more partitions; those that there are stay so many.
func TestJoin(t *testing.T) {
	full := func(parts int, from int64) model {
		m := model{parts: parts}
		for part := range parts {
			m.seen = append(m.seen, seen{part, from + int64(part%3)*10})
		}
		return m
	}
	for a := 0; a <= api.MaxParts; a++ {
		for b := 0; b <= api.MaxParts; b++ {
			for _, from := range []int64{-30, -5, 0, 5, 30} {
				x, y := full(a, 0), full(b, from)
				got := x.marks(t).Join(y.marks(t))
				check(t, fmt.Sprintf("%d and %d partitions, from %d on", a, b, from), got, model{a, slices.Concat(x.seen, y.seen)})
				check(t, "an empty one", newMarks(t, a).Join(y.marks(t)), model{a, y.seen})
				check(t, "with an empty one", x.marks(t).Join(newMarks(t, b)), x)
			}
		}
	}
}

// P14.1: Join with what was seen of partitions that there aren't is the same marks.
func TestJoinOfNone(t *testing.T) {
	more := newMarks(t, 8).See(2, 9).See(7, -9)
	for _, m := range []mark.Marks{newMarks(t, 2), newMarks(t, 2).See(0, 1), newMarks(t, 1), {}} {
		if m.Join(more) != m {
			t.Errorf("%v, joined with others' partitions, is %v", m, m.Join(more))
		}
	}
}

// P14.1: Of is the greatest time of that partition, and of no other one.
func TestOf(t *testing.T) {
	m := newMarks(t, 3).See(1, -4).See(1, -9)
	for part, want := range map[int]bool{-1: false, 0: false, 1: true, 2: false, 3: false, api.MaxParts: false} {
		x, ok := m.Of(part)
		if ok != want || want && x != -4 || !want && x != 0 {
			t.Errorf("Of(%d) = %d, %v", part, x, ok)
		}
	}
}

// P14.1: Low, with one partition unseen, whichever it is, and with all seen.
func TestLow(t *testing.T) {
	for parts := 1; parts <= api.MaxParts; parts++ {
		for unseen := range parts {
			for _, sign := range []int64{1, -1} {
				m := newMarks(t, parts)
				for part := range parts {
					if part != unseen {
						m = m.See(part, sign*int64(10+part))
					}
				}
				if low, ok := m.Low(); low != 0 || ok {
					t.Errorf("%d partitions, of the %d-th nothing: Low = %d, %v", parts, unseen, low, ok)
				}
				for _, at := range []int64{-1000, -10, 0, 10, 1000} {
					want := at
					for part := range parts {
						if part != unseen {
							want = min(want, sign*int64(10+part))
						}
					}
					if low, ok := m.See(unseen, at).Low(); low != want || !ok {
						t.Errorf("%d partitions, of the %d-th %d: Low = %d, %v; not %d", parts, unseen, at, low, ok, want)
					}
				}
			}
		}
	}
}

// P14.1: Low of the least and the greatest times there are.
func TestLowOfGreatTimes(t *testing.T) {
	for _, a := range times {
		for _, b := range times {
			if low, ok := newMarks(t, 2).See(0, a).See(1, b).Low(); low != min(a, b) || !ok {
				t.Errorf("%d and %d: Low = %d, %v", a, b, low, ok)
			}
		}
	}
}

// P14.1, P5: whatever is seen and joined; no time and no Low falls.
func TestAny(t *testing.T) {
	r := rand.New(rand.NewPCG(14, 1))
	for n := range 2000 {
		a, b := someModel(r, r.IntN(api.MaxParts+1), n%40), someModel(r, r.IntN(api.MaxParts+1), r.IntN(20))
		x, y := a.marks(t), b.marks(t)
		check(t, "seen", x, a)
		inOfB := slices.DeleteFunc(slices.Clone(b.seen), func(s seen) bool { return s.part >= b.parts })
		both := x.Join(y)
		check(t, "joined", both, model{a.parts, slices.Concat(a.seen, inOfB)})
		if both.Join(y) != both || both.Join(x) != both || x.Join(x) != x {
			t.Fatalf("%+v, %+v: joined again it is another one", a, b)
		}
		if before, ok := x.Low(); ok {
			if low, still := both.Low(); !still || low < before {
				t.Fatalf("%+v, %+v: Low falls from %d to %d, %v", a, b, before, low, still)
			}
		}
	}
}
