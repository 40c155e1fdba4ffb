package real_test

import (
	"math"
	"math/big"
	"testing"

	"headrace/real"
)

const noNumber = 0x7ff8000000000000

// nones are bits of what is no number: quiet and signalling, with and without the sign.
var nones = []uint64{
	0x7ff8000000000000,
	0x7ff8000000000001,
	0x7ff0000000000001,
	0x7ff4000000000000,
	0x7fffffffffffffff,
	0xfff8000000000000,
	0xfff0000000000001,
	0xfff0000000000009,
	0xffffffffffffffff,
}

// rising are the edges of the order, each one ahead of the next one.
var rising = []float64{
	math.Inf(-1),
	-math.MaxFloat64,
	-1e300,
	-3,
	-1.0000000000000002,
	-1,
	-0.5,
	-0x1.0000000000001p-1022,
	-0x1p-1022,
	-0x0.fffffffffffffp-1022,
	-1e-323,
	-5e-324,
	math.Copysign(0, -1),
	0,
	5e-324,
	1e-323,
	0x0.fffffffffffffp-1022,
	0x1p-1022,
	0x1.0000000000001p-1022,
	0.5,
	1,
	1.0000000000000002,
	3,
	1e300,
	math.MaxFloat64,
	math.Inf(1),
	math.Float64frombits(noNumber),
}

// someBits answers n words of all kinds, the same ones at each call.
func someBits(n int) []uint64 {
	l := make([]uint64, n)
	x := uint64(1)
	for i := range l {
		x += 0x9e3779b97f4a7c15
		z := x
		z = (z ^ z>>30) * 0xbf58476d1ce4e5b9
		z = (z ^ z>>27) * 0x94d049bb133111eb
		l[i] = z ^ z>>31
	}
	return l
}

// allBits are the edges' bits, those of what is no number, and some more.
func allBits() []uint64 {
	l := someBits(2000)
	for _, x := range rising {
		l = append(l, math.Float64bits(x))
	}
	return append(l, nones...)
}

// isNone tells from the bits alone whether they are of what is no number.
func isNone(b uint64) bool {
	return b&0x7ff0000000000000 == 0x7ff0000000000000 && b&0x000fffffffffffff != 0
}

// P1.1: all that is no number has one Canon, whatever its bits are.
func TestCanonOfNoNumber(t *testing.T) {
	for _, b := range nones {
		x := math.Float64frombits(b)
		if got := math.Float64bits(real.Canon(x)); got != noNumber {
			t.Errorf("bits of Canon of %x = %x", b, got)
		}
		if got := real.Bits(x); got != noNumber {
			t.Errorf("Bits of %x = %x", b, got)
		}
		if got := math.Float64bits(real.Of(b)); got != noNumber {
			t.Errorf("bits of Of(%x) = %x", b, got)
		}
	}
}

// P1.1: of a number Canon is the number itself, and Bits and Of go there and back.
func TestCanonOfNumbers(t *testing.T) {
	for _, b := range allBits() {
		if isNone(b) {
			continue
		}
		x := math.Float64frombits(b)
		if got := math.Float64bits(real.Canon(x)); got != b {
			t.Errorf("bits of Canon of %x = %x", b, got)
		}
		if got := real.Bits(x); got != b {
			t.Errorf("Bits of %x = %x", b, got)
		}
		if got := math.Float64bits(real.Of(b)); got != b {
			t.Errorf("bits of Of(%x) = %x", b, got)
		}
	}
}

// P1.1: bits that are written out, of IEEE 754.
func TestBitsWrittenOut(t *testing.T) {
	for _, c := range []struct {
		x float64
		b uint64
	}{
		{0, 0},
		{math.Copysign(0, -1), 0x8000000000000000},
		{5e-324, 1},
		{-5e-324, 0x8000000000000001},
		{0x1p-1022, 0x0010000000000000},
		{1, 0x3ff0000000000000},
		{-1.5, 0xbff8000000000000},
		{math.MaxFloat64, 0x7fefffffffffffff},
		{math.Inf(1), 0x7ff0000000000000},
		{math.Inf(-1), 0xfff0000000000000},
		{math.NaN(), noNumber},
	} {
		if got := real.Bits(c.x); got != c.b {
			t.Errorf("Bits(%v) = %x, not %x", c.x, got, c.b)
		}
	}
}

// P1.1: Same holds Bits against Bits: 0 and -0 are two, all that is no number is one.
func TestSame(t *testing.T) {
	for i, a := range rising {
		for k, b := range rising {
			if real.Same(a, b) != (i == k) {
				t.Errorf("Same(%v, %v) = %v", a, b, i != k)
			}
		}
	}
	for _, a := range nones {
		for _, b := range nones {
			if !real.Same(math.Float64frombits(a), math.Float64frombits(b)) {
				t.Errorf("%x and %x are not the same", a, b)
			}
		}
	}
}

// P1.2: what stands ahead has the lesser Rank, what is the same has the same.
func TestOrder(t *testing.T) {
	for i, a := range rising {
		for k, b := range rising {
			if real.Less(a, b) != (i < k) {
				t.Errorf("Less(%v, %v) = %v", a, b, i >= k)
			}
			if (real.Rank(a) < real.Rank(b)) != (i < k) || (real.Rank(a) == real.Rank(b)) != (i == k) {
				t.Errorf("Ranks of %v, %v: %x, %x", a, b, real.Rank(a), real.Rank(b))
			}
		}
	}
}

// P1.2: numbers stand as Go's < has them rise.
func TestOrderOfManyNumbers(t *testing.T) {
	l := someBits(400)
	for _, a := range l {
		for _, b := range l {
			x, y := math.Float64frombits(a), math.Float64frombits(b)
			if !isNone(a) && !isNone(b) && x != y && real.Less(x, y) != (x < y) {
				t.Fatalf("Less(%v, %v) = %v", x, y, x >= y)
			}
		}
	}
}

// P1.2: Ranks that are written out.
func TestRankWrittenOut(t *testing.T) {
	for _, c := range []struct {
		x float64
		r uint64
	}{
		{math.Inf(-1), 0x000fffffffffffff},
		{-1, 0x400fffffffffffff},
		{-5e-324, 0x7ffffffffffffffe},
		{math.Copysign(0, -1), 0x7fffffffffffffff},
		{0, 0x8000000000000000},
		{5e-324, 0x8000000000000001},
		{1, 0xbff0000000000000},
		{math.Inf(1), 0xfff0000000000000},
	} {
		if got := real.Rank(c.x); got != c.r {
			t.Errorf("Rank(%v) = %x, not %x", c.x, got, c.r)
		}
	}
}

// P1.2: what is no number stands last, in one place, even if its bits have the sign.
func TestOrderOfNoNumber(t *testing.T) {
	for _, b := range nones {
		x := math.Float64frombits(b)
		if got := real.Rank(x); got != 0xfff8000000000000 {
			t.Errorf("Rank of %x = %x", b, got)
		}
		if real.Less(x, math.Inf(1)) || !real.Less(math.Inf(1), x) {
			t.Errorf("%x does not stand behind +Inf", b)
		}
		for _, other := range nones {
			if real.Less(x, math.Float64frombits(other)) {
				t.Errorf("%x stands ahead of %x", b, other)
			}
		}
	}
}

// P1.2: Min and Max are the ones that stand ahead and behind.
func TestMinMax(t *testing.T) {
	for i, a := range rising {
		for k, b := range rising {
			low, high := rising[min(i, k)], rising[max(i, k)]
			if got := real.Min(a, b); math.Float64bits(got) != math.Float64bits(low) {
				t.Errorf("Min(%v, %v) = %v", a, b, got)
			}
			if got := real.Max(a, b); math.Float64bits(got) != math.Float64bits(high) {
				t.Errorf("Max(%v, %v) = %v", a, b, got)
			}
		}
	}
}

// P1.2: Min and Max answer Canon, on whichever side what is no number stands.
func TestMinMaxOfNoNumber(t *testing.T) {
	one := math.Float64bits(1)
	for _, b := range nones {
		x := math.Float64frombits(b)
		for _, got := range []float64{real.Max(x, 1), real.Max(1, x), real.Max(x, x), real.Min(x, x), real.Max(x, math.Inf(1))} {
			if math.Float64bits(got) != noNumber {
				t.Errorf("with %x: %x", b, math.Float64bits(got))
			}
		}
		for _, got := range []float64{real.Min(x, 1), real.Min(1, x)} {
			if math.Float64bits(got) != one {
				t.Errorf("Min with %x: %x", b, math.Float64bits(got))
			}
		}
		for _, other := range nones {
			y := math.Float64frombits(other)
			if math.Float64bits(real.Min(x, y)) != noNumber || math.Float64bits(real.Max(x, y)) != noNumber {
				t.Errorf("Min or Max of %x, %x is not the one", b, other)
			}
		}
	}
}

// P1.3: parts that are written out.
func TestSplitWrittenOut(t *testing.T) {
	for _, c := range []struct {
		x   float64
		neg bool
		m   uint64
		s   int
	}{
		{1, false, 1 << 52, 1022},
		{-1, true, 1 << 52, 1022},
		{3, false, 3 << 51, 1023},
		{0.1, false, 0x1999999999999a, 1018},
		{0, false, 0, 0},
		{math.Copysign(0, -1), true, 0, 0},
		{5e-324, false, 1, 0},
		{-5e-324, true, 1, 0},
		{0x0.fffffffffffffp-1022, false, 1<<52 - 1, 0},
		{0x1p-1022, false, 1 << 52, 0},
		{-0x1p-1022, true, 1 << 52, 0},
		{0x1.fffffffffffffp-1022, false, 1<<53 - 1, 0},
		{0x1p-1021, false, 1 << 52, 1},
		{math.MaxFloat64, false, 1<<53 - 1, 2045},
		{-math.MaxFloat64, true, 1<<53 - 1, 2045},
	} {
		neg, m, s, ok := real.Split(c.x)
		if neg != c.neg || m != c.m || s != c.s || !ok {
			t.Errorf("Split(%v) = %v, %x, %d, %v", c.x, neg, m, s, ok)
		}
	}
}

// P1.3: m times 2^(s-1074) is the number, and m and s are within what is promised.
func TestSplitIsTheNumber(t *testing.T) {
	for _, b := range allBits() {
		x := math.Float64frombits(b)
		if isNone(b) || math.IsInf(x, 0) {
			continue
		}
		neg, m, s, ok := real.Split(x)
		if !ok || neg != math.Signbit(x) {
			t.Errorf("Split(%v) = %v, %x, %d, %v", x, neg, m, s, ok)
		}
		if m >= 1<<53 || s < 0 || s != 0 && m < 1<<52 {
			t.Errorf("Split(%v): m = %x, s = %d", x, m, s)
		}
		back := new(big.Float).SetMantExp(new(big.Float).SetUint64(m), s-1074)
		if back.Cmp(big.NewFloat(math.Abs(x))) != 0 {
			t.Errorf("Split(%v): m = %x, s = %d are %v", x, m, s, back)
		}
	}
}

// P1.3: of what isn't finite all is nought.
func TestSplitOfWhatIsNotFinite(t *testing.T) {
	for _, b := range append([]uint64{0x7ff0000000000000, 0xfff0000000000000}, nones...) {
		neg, m, s, ok := real.Split(math.Float64frombits(b))
		if neg || m != 0 || s != 0 || ok {
			t.Errorf("Split of %x = %v, %x, %d, %v", b, neg, m, s, ok)
		}
	}
}

// answers are all that the package says of two words of bits, as bits.
func answers(a, b uint64) [14]uint64 {
	x, y := math.Float64frombits(a), math.Float64frombits(b)
	neg, m, s, ok := real.Split(x)
	word := func(b bool) uint64 {
		if b {
			return 1
		}
		return 0
	}
	return [14]uint64{
		math.Float64bits(real.Canon(x)), real.Bits(x), math.Float64bits(real.Of(a)), real.Rank(x),
		word(real.Less(x, y)), word(real.Less(y, x)), word(real.Same(x, y)),
		math.Float64bits(real.Min(x, y)), math.Float64bits(real.Max(x, y)), math.Float64bits(real.Min(y, x)),
		word(neg), m, uint64(s), word(ok),
	}
}

// P1, P2: each call answers at all bits, those of no numbers too, and answers the same again, whatever was asked between.
func TestAllArguments(t *testing.T) {
	l := append(someBits(60), nones...)
	for _, x := range rising {
		l = append(l, math.Float64bits(x))
	}
	first := map[[2]uint64][14]uint64{}
	for _, a := range l {
		for _, b := range l {
			first[[2]uint64{a, b}] = answers(a, b)
		}
	}
	for k, want := range first {
		if got := answers(k[0], k[1]); got != want {
			t.Errorf("of %x: first %x, then %x", k, want, got)
		}
	}
}

// P1.2: exactly one of a ahead of b, b ahead of a, the same; Rank tells which.
func TestOrderIsWhole(t *testing.T) {
	l := append(someBits(200), nones...)
	for _, x := range rising {
		l = append(l, math.Float64bits(x))
	}
	for _, a := range l {
		for _, b := range l {
			x, y := math.Float64frombits(a), math.Float64frombits(b)
			n := 0
			for _, is := range []bool{real.Less(x, y), real.Less(y, x), real.Same(x, y)} {
				if is {
					n++
				}
			}
			if n != 1 || real.Same(x, y) != (real.Rank(x) == real.Rank(y)) {
				t.Fatalf("%x and %x: %d of the three hold", a, b, n)
			}
		}
	}
}
