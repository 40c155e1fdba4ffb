// Package real is layer 1: see shared/doc/01-real.md.
package real

import "math"

const (
	// noNumber is the one that stands for all that is no number. It is not
	// math.NaN's, whose lowest bit is set.
	noNumber = 0x7ff8000000000000

	signBit      = 1 << 63
	hiddenBit    = 1 << fractionSize
	fractionSize = 52
	exponentMask = 0x7ff
)

// Canon: the number itself; of all that are none the one.
func Canon(x float64) float64 {
	if math.IsNaN(x) {
		return math.Float64frombits(noNumber)
	}
	return x
}

// Bits: a number's bits, of Canon. Of: the number of some bits, Canon.
func Bits(x float64) uint64 {
	return math.Float64bits(Canon(x))
}

func Of(b uint64) float64 {
	return Canon(math.Float64frombits(b))
}

// Rank: a number's place among all: -Inf first, +Inf, and then what is none, last.
func Rank(x float64) uint64 {
	b := Bits(x)
	if b&signBit != 0 {
		// Of two with the sign the one with the greater bits stands ahead.
		return ^b
	}
	return b | signBit
}

// Less: does one stand ahead of another? Same: are they one?
func Less(a, b float64) bool {
	return Rank(a) < Rank(b)
}

func Same(a, b float64) bool {
	return Bits(a) == Bits(b)
}

// Min, Max: the one that stands ahead, or behind.
func Min(a, b float64) float64 {
	if Less(b, a) {
		return Canon(b)
	}
	return Canon(a)
}

func Max(a, b float64) float64 {
	if Less(a, b) {
		return Canon(b)
	}
	return Canon(a)
}

// Split: a number's sign, and m and s, of which it is m times 2^(s-1074); false: it is none, or infinite.
func Split(x float64) (neg bool, m uint64, s int, ok bool) {
	b := Bits(x)
	neg = b&signBit != 0
	m = b & (hiddenBit - 1)
	exponent := int(b >> fractionSize & exponentMask)
	switch exponent {
	case exponentMask:
		return false, 0, 0, false
	case 0:
		// 0 and the least numbers have no hidden bit, and the scale of exponent 1.
		return neg, m, 0, true
	}
	return neg, m | hiddenBit, exponent - 1, true
}
