package agg_test

import (
	"cmp"
	"math"
	"math/big"
	"math/rand/v2"
	"slices"
	"testing"

	"headrace/agg"
	"headrace/api"
)

const (
	theOne   = 0x7ff8000000000000 // the bits of what is no number
	least    = math.SmallestNonzeroFloat64
	greatest = math.MaxFloat64
	normal   = 0x1p-1022 // the least number that has all its bits
)

var (
	minusZero = math.Copysign(0, -1)
	plusInf   = math.Inf(1)
	minusInf  = math.Inf(-1)
	nan       = math.Float64frombits(theOne)
)

// none are numbers that are none, of other bits than the one's: with the sign, quiet and not.
var none = []float64{
	math.NaN(),
	math.Float64frombits(0x7ff0000000000001),
	math.Float64frombits(0xfff0000000000009),
	math.Float64frombits(0xfff8000000000000),
	math.Float64frombits(math.MaxUint64),
}

// kinds are values of all kinds, rising, each another one.
var kinds = []float64{
	minusInf, -greatest, -1e300, -1.5, -1, -0.1, -normal, -least, minusZero,
	0, least, normal, 0.1, 0.5, 1, 3, 0x1p53, 1e300, greatest, plusInf, nan,
}

func stateOf(l ...float64) agg.State {
	var s agg.State
	for _, x := range l {
		s = s.Add(x)
	}
	return s
}

// timesTwo is a state of what s has, 2^n times.
func timesTwo(s agg.State, n int) agg.State {
	for range n {
		s = s.Join(s)
	}
	return s
}

// canon is x, and of all that is no number the one.
func canon(x float64) float64 {
	if x != x {
		return nan
	}
	return x
}

// canonOf is a telling whose numbers are canon.
func canonOf(a api.Agg) api.Agg {
	a.Sum, a.Min, a.Max = canon(a.Sum), canon(a.Min), canon(a.Max)
	return a
}

// order is the order of all numbers: -0 ahead of 0, what is no number last.
func order(a, b float64) int {
	last := func(x float64) int {
		if x != x {
			return 1
		}
		return 0
	}
	sign := func(x float64) int {
		if x == 0 && math.Signbit(x) {
			return -1
		}
		return 0
	}
	if c := cmp.Compare(last(a), last(b)); c != 0 || last(a) == 1 {
		return c
	}
	return cmp.Or(cmp.Compare(a, b), cmp.Compare(sign(a), sign(b)))
}

// told is what is told of values, worked out apart from the program.
func told(l []float64) api.Agg {
	if len(l) == 0 {
		return api.Agg{}
	}
	sum, over := sumOf(l)
	return api.Agg{
		Count: uint64(len(l)),
		Sum:   sum,
		Over:  over,
		Min:   canon(slices.MinFunc(l, order)),
		Max:   canon(slices.MaxFunc(l, order)),
	}
}

// sumOf is the sum of values that is rounded once, and whether it is too great.
func sumOf(l []float64) (float64, bool) {
	// To -0 all that is added is as it was, another -0 too.
	sum := new(big.Float).SetPrec(3000).SetFloat64(minusZero)
	var beyond float64
	for _, x := range l {
		if math.IsNaN(x) || math.IsInf(x, 0) {
			beyond += x
			continue
		}
		sum.Add(sum, new(big.Float).SetFloat64(x))
	}
	if beyond != 0 {
		return canon(beyond), false
	}
	x, _ := sum.Float64()
	return x, math.IsInf(x, 0)
}

// alike: are two tellings the same, to the bit?
func alike(a, b api.Agg) bool {
	bits := func(a api.Agg) [3]uint64 {
		return [3]uint64{math.Float64bits(a.Sum), math.Float64bits(a.Min), math.Float64bits(a.Max)}
	}
	return a.Count == b.Count && a.Over == b.Over && bits(a) == bits(b)
}

func checkState(t *testing.T, what any, s agg.State, want api.Agg) {
	t.Helper()
	if got := s.Value(); !alike(got, want) || s.Len() != want.Count {
		t.Errorf("%v: Value = %+v, Len = %d, not %+v", what, got, s.Len(), want)
	}
}

// someValues are n values of all kinds and sizes, the same ones for the same r.
func someValues(r *rand.Rand, n int) []float64 {
	l := make([]float64, n)
	finite := r.IntN(3) > 0
	for i := range l {
		l[i] = someValue(r)
		if finite && (math.IsNaN(l[i]) || math.IsInf(l[i], 0)) {
			l[i] = float64(r.IntN(2000) - 1000)
		}
	}
	return l
}

func someValue(r *rand.Rand) float64 {
	switch r.IntN(6) {
	case 0:
		return kinds[r.IntN(len(kinds))]
	case 1:
		return none[r.IntN(len(none))]
	case 2:
		return math.Float64frombits(r.Uint64() & 0x800fffffffffffff)
	case 3:
		return float64(r.IntN(20)-10) / 4
	}
	return math.Float64frombits(r.Uint64())
}
