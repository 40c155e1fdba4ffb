package agg_test

import (
	"bytes"
	"math"
	"math/rand/v2"
	"slices"
	"testing"

	"headrace/agg"
	"headrace/api"
)

// P12.1: the document's example.
func TestExample(t *testing.T) {
	checkState(t, "3, 1, 2", stateOf(3, 1, 2), api.Agg{Count: 3, Sum: 6, Min: 1, Max: 3})
}

// written are values with what is told of them, written out.
var written = []struct {
	l    []float64
	want api.Agg
}{
	{nil, api.Agg{}},
	{[]float64{1.5}, api.Agg{Count: 1, Sum: 1.5, Min: 1.5, Max: 1.5}},
	{[]float64{-7}, api.Agg{Count: 1, Sum: -7, Min: -7, Max: -7}},
	{[]float64{5, 5}, api.Agg{Count: 2, Sum: 10, Min: 5, Max: 5}},
	{[]float64{-2, -3}, api.Agg{Count: 2, Sum: -5, Min: -3, Max: -2}},
	{[]float64{1e300, 1, -1e300}, api.Agg{Count: 3, Sum: 1, Min: -1e300, Max: 1e300}},
	{[]float64{1, -1}, api.Agg{Count: 2, Sum: 0, Min: -1, Max: 1}},

	{[]float64{0}, api.Agg{Count: 1}},
	{[]float64{minusZero}, api.Agg{Count: 1, Sum: minusZero, Min: minusZero, Max: minusZero}},
	{[]float64{minusZero, minusZero}, api.Agg{Count: 2, Sum: minusZero, Min: minusZero, Max: minusZero}},
	{[]float64{0, 0}, api.Agg{Count: 2}},
	{[]float64{0, minusZero}, api.Agg{Count: 2, Min: minusZero}},
	{[]float64{minusZero, 0}, api.Agg{Count: 2, Min: minusZero}},
	{[]float64{minusZero, -1}, api.Agg{Count: 2, Sum: -1, Min: -1, Max: minusZero}},
	{[]float64{0, 1}, api.Agg{Count: 2, Sum: 1, Max: 1}},

	{[]float64{nan}, api.Agg{Count: 1, Sum: nan, Min: nan, Max: nan}},
	{[]float64{none[1]}, api.Agg{Count: 1, Sum: nan, Min: nan, Max: nan}},
	{[]float64{none[2], none[4]}, api.Agg{Count: 2, Sum: nan, Min: nan, Max: nan}},
	{[]float64{none[3], 2}, api.Agg{Count: 2, Sum: nan, Min: 2, Max: nan}},
	{[]float64{-2, none[0]}, api.Agg{Count: 2, Sum: nan, Min: -2, Max: nan}},
	{[]float64{nan, 0, minusZero}, api.Agg{Count: 3, Sum: nan, Min: minusZero, Max: nan}},

	{[]float64{plusInf}, api.Agg{Count: 1, Sum: plusInf, Min: plusInf, Max: plusInf}},
	{[]float64{minusInf}, api.Agg{Count: 1, Sum: minusInf, Min: minusInf, Max: minusInf}},
	{[]float64{plusInf, 4}, api.Agg{Count: 2, Sum: plusInf, Min: 4, Max: plusInf}},
	{[]float64{4, minusInf}, api.Agg{Count: 2, Sum: minusInf, Min: minusInf, Max: 4}},
	{[]float64{minusInf, plusInf}, api.Agg{Count: 2, Sum: nan, Min: minusInf, Max: plusInf}},
	{[]float64{plusInf, minusInf}, api.Agg{Count: 2, Sum: nan, Min: minusInf, Max: plusInf}},
	{[]float64{plusInf, nan}, api.Agg{Count: 2, Sum: nan, Min: plusInf, Max: nan}},
	{[]float64{none[4], minusInf}, api.Agg{Count: 2, Sum: nan, Min: minusInf, Max: nan}},
	{[]float64{plusInf, nan, minusInf}, api.Agg{Count: 3, Sum: nan, Min: minusInf, Max: nan}},

	{[]float64{greatest, greatest}, api.Agg{Count: 2, Sum: plusInf, Over: true, Min: greatest, Max: greatest}},
	{[]float64{-greatest, -greatest}, api.Agg{Count: 2, Sum: minusInf, Over: true, Min: -greatest, Max: -greatest}},
	{[]float64{greatest, greatest, -greatest}, api.Agg{Count: 3, Sum: greatest, Min: -greatest, Max: greatest}},
	{[]float64{-greatest, greatest, -greatest}, api.Agg{Count: 3, Sum: -greatest, Min: -greatest, Max: greatest}},
	{[]float64{greatest, greatest, 1, -greatest, -greatest}, api.Agg{Count: 5, Sum: 1, Min: -greatest, Max: greatest}},
	{[]float64{greatest, greatest, plusInf}, api.Agg{Count: 3, Sum: plusInf, Min: greatest, Max: plusInf}},
	{[]float64{greatest, greatest, minusInf}, api.Agg{Count: 3, Sum: minusInf, Min: minusInf, Max: greatest}},
	{[]float64{greatest, greatest, nan}, api.Agg{Count: 3, Sum: nan, Min: greatest, Max: nan}},

	{[]float64{least}, api.Agg{Count: 1, Sum: least, Min: least, Max: least}},
	{[]float64{least, least, -least}, api.Agg{Count: 3, Sum: least, Min: -least, Max: least}},
	{[]float64{least, -least}, api.Agg{Count: 2, Min: -least, Max: least}},
	{[]float64{greatest, least, -greatest}, api.Agg{Count: 3, Sum: least, Min: -greatest, Max: greatest}},
	{[]float64{0, least}, api.Agg{Count: 2, Sum: least, Max: least}},
	{[]float64{minusZero, -least}, api.Agg{Count: 2, Sum: -least, Min: -least, Max: minusZero}},
	{[]float64{normal, -least}, api.Agg{Count: 2, Sum: normal - least, Min: -least, Max: normal}},

	{[]float64{0x1p53, 1}, api.Agg{Count: 2, Sum: 0x1p53, Min: 1, Max: 0x1p53}},
	{[]float64{0x1p53, 1, least}, api.Agg{Count: 3, Sum: 0x1p53 + 2, Min: least, Max: 0x1p53}},
}

// P12.1: what is told of values, as it is written out, in that order and turned about.
func TestValueWrittenOut(t *testing.T) {
	for _, c := range written {
		checkState(t, c.l, stateOf(c.l...), c.want)
		back := slices.Clone(c.l)
		slices.Reverse(back)
		checkState(t, back, stateOf(back...), c.want)
	}
}

// P12.1: what is told of up to three values of all kinds, and of some that are none.
func TestValueOfAllKinds(t *testing.T) {
	all := slices.Concat(kinds, none)
	for _, x := range all {
		checkState(t, x, stateOf(x), told([]float64{x}))
		for _, y := range all {
			checkState(t, []float64{x, y}, stateOf(x, y), told([]float64{x, y}))
			for _, z := range all {
				l := []float64{x, y, z}
				checkState(t, l, stateOf(l...), told(l))
			}
		}
	}
}

// P12.1: what is told of many values.
func TestValueOfMany(t *testing.T) {
	r := rand.New(rand.NewPCG(12, 1))
	for n := range 300 {
		l := someValues(r, n)
		checkState(t, l, stateOf(l...), told(l))
	}
	tenths := slices.Repeat([]float64{0.1}, 10000)
	checkState(t, "0.1, 10000 times", stateOf(tenths...), told(tenths))
}

// groupedAnyhow is a state of values, in groups that are joined anyhow, some of them of no values.
func groupedAnyhow(r *rand.Rand, l []float64) agg.State {
	if len(l) == 0 {
		return agg.State{}
	}
	if r.IntN(8) == 0 {
		return stateOf(l...)
	}
	if len(l) == 1 {
		return agg.State{}.Join(stateOf(l[0]))
	}
	cut := r.IntN(len(l) + 1)
	head, tail := groupedAnyhow(r, l[:cut]), groupedAnyhow(r, l[cut:])
	if r.IntN(2) == 0 {
		head, tail = tail, head
	}
	return head.Join(tail)
}

// P12.1: neither order nor grouping play a part.
func TestOrderAndGrouping(t *testing.T) {
	r := rand.New(rand.NewPCG(12, 2))
	for n := range 200 {
		l := someValues(r, n%40)
		s, want := stateOf(l...), told(l)
		for range 6 {
			r.Shuffle(len(l), func(i, k int) { l[i], l[k] = l[k], l[i] })
			other := groupedAnyhow(r, l)
			checkState(t, l, other, want)
			if !bytes.Equal(agg.Lay(nil, s), agg.Lay(nil, other)) {
				t.Fatalf("%v: laid as %x and as %x", l, agg.Lay(nil, s), agg.Lay(nil, other))
			}
		}
	}
}

// P12.1: joined with no values, on either side, a state is as it was.
func TestJoinWithNoValues(t *testing.T) {
	var nothing agg.State
	checkState(t, "no values", nothing, api.Agg{})
	checkState(t, "no values, twice", nothing.Join(nothing), api.Agg{})
	for _, c := range written {
		s := stateOf(c.l...)
		checkState(t, c.l, s.Join(nothing), c.want)
		checkState(t, c.l, nothing.Join(s), c.want)
		checkState(t, c.l, nothing.Join(s).Join(nothing).Join(nothing), c.want)
	}
}

// P12.1: joined with itself a state has all of its values twice.
func TestJoinWithItself(t *testing.T) {
	for _, c := range written {
		s := stateOf(c.l...)
		checkState(t, c.l, s.Join(s), told(slices.Concat(c.l, c.l)))
		checkState(t, c.l, s.Join(s).Join(s), told(slices.Concat(c.l, c.l, c.l)))
	}
}

// P12.1: what is told of values of two states is told of their Join, in either order.
func TestJoinOfTwo(t *testing.T) {
	for _, a := range written {
		for _, b := range written {
			want := told(slices.Concat(a.l, b.l))
			checkState(t, []any{a.l, b.l}, stateOf(a.l...).Join(stateOf(b.l...)), want)
			checkState(t, []any{b.l, a.l}, stateOf(b.l...).Join(stateOf(a.l...)), want)
		}
	}
}

// P12.1: a state is a value: what is added to it, or joined with it, it hasn't.
func TestStateIsAValue(t *testing.T) {
	for _, c := range written {
		s, o := stateOf(c.l...), stateOf(-9, nan)
		laid, other := agg.Lay(nil, s), agg.Lay(nil, o)
		more := s.Add(-11)
		s.Join(o)
		more.Add(greatest)
		checkState(t, c.l, s, c.want)
		if !bytes.Equal(agg.Lay(nil, s), laid) || !bytes.Equal(agg.Lay(nil, o), other) {
			t.Errorf("%v: the states have changed", c.l)
		}
		checkState(t, c.l, more, told(append(slices.Clone(c.l), -11)))
	}
}

// P12.1: MaxOffset values, of the greatest and of the least, and of others of the other sign.
func TestMostValues(t *testing.T) {
	for _, sign := range []float64{1, -1} {
		x := sign * greatest
		all := timesTwo(stateOf(x), 40)
		checkState(t, "MaxOffset of the greatest", all, api.Agg{Count: api.MaxOffset, Sum: sign * plusInf, Over: true, Min: x, Max: x})
		checkState(t, "as many of the other sign", timesTwo(stateOf(x), 39).Join(timesTwo(stateOf(-x), 39)),
			api.Agg{Count: api.MaxOffset, Min: -greatest, Max: greatest})
		checkState(t, "as many of the other sign, and another one", timesTwo(stateOf(x), 38).Join(timesTwo(stateOf(-x), 38)).Add(0.5),
			api.Agg{Count: api.MaxOffset/2 + 1, Sum: 0.5, Min: -greatest, Max: greatest})
		y := sign * least
		checkState(t, "MaxOffset of the least", timesTwo(stateOf(y), 40), api.Agg{Count: api.MaxOffset, Sum: sign * 0x1p-1034, Min: y, Max: y})
	}
}

// P1: what is told ends, and doesn't panic, of more values than can be counted.
func TestBeyondMostValues(t *testing.T) {
	for _, x := range kinds {
		s := timesTwo(stateOf(x, 1), 70)
		s.Value()
		s.Len()
		agg.Lay(nil, s.Join(s).Add(2))
	}
}

// P12.1: Same of tellings that differ in one thing each.
func TestSameOfOneThingEach(t *testing.T) {
	tellings := []api.Agg{
		{},
		{Count: 3, Sum: 6, Min: 1, Max: 3},
		{Count: 2, Sum: plusInf, Over: true, Min: greatest, Max: greatest},
		{Count: 1, Sum: nan, Min: nan, Max: nan},
		{Count: 2, Sum: minusZero, Min: minusZero, Max: minusZero},
		{Count: api.MaxOffset, Sum: minusInf, Min: minusInf, Max: 0},
	}
	for _, a := range tellings {
		if !agg.Same(a, a) {
			t.Errorf("%+v isn't the same as itself", a)
		}
		for _, count := range []uint64{0, 1, a.Count + 1, a.Count - 1, a.Count + 1<<32, math.MaxUint64} {
			b := a
			b.Count = count
			checkSame(t, a, b, count == a.Count)
		}
		b := a
		b.Over = !a.Over
		checkSame(t, a, b, false)
		for _, x := range slices.Concat(kinds, none) {
			b, c, d := a, a, a
			b.Sum, c.Min, d.Max = x, x, x
			for _, o := range []api.Agg{b, c, d} {
				checkSame(t, a, o, alike(canonOf(a), canonOf(o)))
			}
		}
	}
}

func checkSame(t *testing.T, a, b api.Agg, want bool) {
	t.Helper()
	if agg.Same(a, b) != want || agg.Same(b, a) != want {
		t.Errorf("%+v and %+v: Same = %v, %v, not %v", a, b, agg.Same(a, b), agg.Same(b, a), want)
	}
}

// P12.1: 0 and -0 are two, whatever is no number is one.
func TestSameOfNoughtsAndOfNoNumbers(t *testing.T) {
	for _, c := range []struct {
		a, b api.Agg
		want bool
	}{
		{api.Agg{}, api.Agg{Sum: minusZero}, false},
		{api.Agg{}, api.Agg{Min: minusZero}, false},
		{api.Agg{}, api.Agg{Max: minusZero}, false},
		{api.Agg{Sum: minusZero, Min: minusZero, Max: minusZero}, api.Agg{Sum: minusZero, Min: minusZero, Max: minusZero}, true},
		{api.Agg{Sum: nan, Min: nan, Max: nan}, api.Agg{Sum: nan, Min: nan, Max: nan}, true},
		{api.Agg{Sum: none[0], Min: none[1], Max: none[2]}, api.Agg{Sum: none[3], Min: none[4], Max: nan}, true},
		{api.Agg{Sum: nan}, api.Agg{Sum: plusInf}, false},
		{api.Agg{Min: none[2]}, api.Agg{Min: minusInf}, false},
		{api.Agg{Max: none[4]}, api.Agg{}, false},
	} {
		checkSame(t, c.a, c.b, c.want)
	}
}

// P12.1: tellings of states are the same, if all that they tell is.
func TestSameOfTellings(t *testing.T) {
	for _, a := range written {
		for _, b := range written {
			checkSame(t, stateOf(a.l...).Value(), stateOf(b.l...).Value(), alike(a.want, b.want))
		}
	}
}

// P2: asked again, whatever was asked between, states answer the same.
func TestAnswersAgain(t *testing.T) {
	for _, c := range slices.Backward(written) {
		s := stateOf(c.l...)
		laid := agg.Lay(nil, s)
		s.Add(1).Join(s).Value()
		checkState(t, c.l, s, c.want)
		checkState(t, c.l, s, c.want)
		if again := agg.Lay(nil, stateOf(c.l...)); !bytes.Equal(again, laid) {
			t.Errorf("%v: laid as %x, and then as %x", c.l, laid, again)
		}
	}
}
