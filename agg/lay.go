package agg

import (
	"math"

	"headrace/api"
	"headrace/column"
	"headrace/exact"
	"headrace/real"
)

// mostSum is how many bytes a sum takes at most: what was there, and its words.
const mostSum = 1 + 8*exact.Words

// Lay: a state behind other bytes. Read: the next state.
func Lay(p []byte, s State) []byte {
	p = column.Uint(p, s.n)
	p = column.Text(p, string(s.sum.Bytes()))
	p = column.Uint(p, s.min)
	return column.Uint(p, s.max)
}

func Read(r *column.Reader) State {
	var s State
	s.n = r.Uint(api.MaxOffset)
	s.sum = readSum(r)
	s.min = readBits(r)
	s.max = readBits(r)
	r.Check(s.sum.Any() == (s.n > 0))
	r.Check(s.n > 0 || s.min == 0 && s.max == 0)
	return s
}

// LayValue: what is told behind other bytes. ReadValue: the next telling.
func LayValue(p []byte, a api.Agg) []byte {
	var over uint64
	if a.Over {
		over = 1
	}
	p = column.Uint(p, a.Count)
	p = column.Uint(p, real.Bits(a.Sum))
	p = column.Uint(p, over)
	p = column.Uint(p, real.Bits(a.Min))
	return column.Uint(p, real.Bits(a.Max))
}

func ReadValue(r *column.Reader) api.Agg {
	var a api.Agg
	a.Count = r.Uint(api.MaxOffset)
	a.Sum = real.Of(readBits(r))
	a.Over = r.Uint(1) == 1
	a.Min = real.Of(readBits(r))
	a.Max = real.Of(readBits(r))
	return a
}

// readSum is the next sum.
func readSum(r *column.Reader) exact.Sum {
	sum, err := exact.Read([]byte(r.Text(mostSum)))
	r.Check(err == api.OK)
	return sum
}

// readBits are the next number's bits, which are some number's real.Bits.
func readBits(r *column.Reader) uint64 {
	b := r.Uint(math.MaxUint64)
	r.Check(real.Bits(real.Of(b)) == b)
	return b
}
