package agg_test

import (
	"bytes"
	"encoding/binary"
	"math"
	"math/rand/v2"
	"slices"
	"testing"

	"headrace/agg"
	"headrace/api"
	"headrace/column"
	"headrace/exact"
)

// gaveUp tells whether f gave up within the bytes p, and didn't come to its end.
func gaveUp(p []byte, f func(r *column.Reader)) bool {
	end := false
	whole := column.Try(p, func(r *column.Reader) {
		f(r)
		end = true
	})
	return !whole && !end
}

func readsState(r *column.Reader) { agg.Read(r) }

func readsValue(r *column.Reader) { agg.ReadValue(r) }

// noBits are bits of what is no number, other than the one's.
var noBits = []uint64{
	0x7ff0000000000001, 0x7ff4000000000000, 0x7ff7ffffffffffff, 0x7ff8000000000001, 0x7fffffffffffffff,
	0xfff0000000000001, 0xfff8000000000000, 0xfff8000000000001, math.MaxUint64,
}

// P12.2: Read gives up at bytes that end within each part.
func TestReadOfBytesThatEnd(t *testing.T) {
	for _, l := range someLists() {
		p := bytesOf(l)
		for n := range p {
			if !gaveUp(p[:n], readsState) {
				t.Errorf("%v: %d of %d bytes are read", l, n, len(p))
			}
		}
		q := bytesOfValue(told(l))
		for n := range q {
			if !gaveUp(q[:n], readsValue) {
				t.Errorf("the telling of %v: %d of %d bytes are read", l, n, len(q))
			}
		}
	}
}

// P12.2: what Read gives up at, part by part, and what it doesn't.
func TestReadPartByPart(t *testing.T) {
	const half, negated = 0x3fe0000000000000, 1 << 63
	one := sumBytes(0.5)
	for _, c := range []struct {
		what string
		p    []byte
		want bool
	}{
		{"a state", stateBytes(1, one, half, half), true},
		{"no values", stateBytes(0, []byte{0}, 0, 0), true},
		{"MaxOffset values", stateBytes(api.MaxOffset, one, half, half), true},
		{"more than MaxOffset values", stateBytes(api.MaxOffset+1, one, half, half), false},
		{"the most values there can be", stateBytes(math.MaxUint64, one, half, half), false},

		{"no bytes of a sum", stateBytes(1, nil, half, half), false},
		{"no bytes of a sum, beside no values", stateBytes(0, nil, 0, 0), false},
		{"a sum with a byte to spare", stateBytes(1, []byte{24, 5, 0}, half, half), false},
		{"a sum with a byte of the sign to spare", stateBytes(1, []byte{24, 0xff, 0xff}, half, half), false},
		{"a sum with a bit that no sum has", stateBytes(1, []byte{24 | 32}, half, half), false},
		{"a sum of something, and not anything", stateBytes(1, []byte{16}, half, half), false},
		{"a sum of -0 that isn't 0", stateBytes(1, []byte{8, 1}, half, half), false},
		{"the longest sum", stateBytes(1, append([]byte{24}, bytes.Repeat([]byte{1}, 8*exact.Words)...), half, half), true},
		{"a sum that is too long", stateBytes(1, append([]byte{24}, bytes.Repeat([]byte{1}, 8*exact.Words+1)...), half, half), false},
		{"a sum that is much too long", stateBytes(1, append([]byte{24}, bytes.Repeat([]byte{1}, 1000)...), half, half), false},

		{"a sum of nothing beside a value", stateBytes(1, []byte{0}, half, half), false},
		{"a sum of nothing beside a value, and noughts", stateBytes(1, []byte{0}, 0, 0), false},
		{"a sum of nothing beside MaxOffset values", stateBytes(api.MaxOffset, []byte{0}, half, half), false},
		{"a sum of something beside no values", stateBytes(0, one, 0, 0), false},
		{"a sum of 0 beside no values", stateBytes(0, []byte{24}, 0, 0), false},
		{"a sum of -0 beside no values", stateBytes(0, []byte{8}, 0, 0), false},
		{"a sum of what is no number beside no values", stateBytes(0, []byte{25}, 0, 0), false},

		{"a Min beside no values", stateBytes(0, []byte{0}, half, 0), false},
		{"a Min of -0 beside no values", stateBytes(0, []byte{0}, negated, 0), false},
		{"a Min of the least beside no values", stateBytes(0, []byte{0}, 1, 0), false},
		{"a Min that is no number beside no values", stateBytes(0, []byte{0}, theOne, 0), false},
		{"a Max beside no values", stateBytes(0, []byte{0}, 0, half), false},
		{"a Max of -0 beside no values", stateBytes(0, []byte{0}, 0, negated), false},
		{"a Max of the least beside no values", stateBytes(0, []byte{0}, 0, 1), false},
		{"a Max that is no number beside no values", stateBytes(0, []byte{0}, 0, theOne), false},
		{"-0 as both beside no values", stateBytes(0, []byte{0}, negated, negated), false},

		{"what is no number as both", stateBytes(1, []byte{25}, theOne, theOne), true},
		{"-0 as both", stateBytes(1, []byte{8}, negated, negated), true},
		{"0 as both", stateBytes(1, []byte{24}, 0, 0), true},
		// The chapter has Read give up at none of these.
		{"a Min above the Max", stateBytes(2, one, half, negated), true},
		{"a Min and a Max beside another sum", stateBytes(2, one, 0, 0), true},
	} {
		checkReadState(t, c.what, c.p, c.want)
	}
	for _, b := range noBits {
		checkReadState(t, "a Min of no Bits", stateBytes(1, []byte{25}, b, theOne), false)
		checkReadState(t, "a Max of no Bits", stateBytes(1, []byte{25}, theOne, b), false)
	}
}

// checkReadState holds what Read does with p against what it should.
func checkReadState(t *testing.T, what string, p []byte, want bool) {
	t.Helper()
	s, ok := read(p)
	if ok != want || gaveUp(p, readsState) == want {
		t.Errorf("%s: Read of %x = %+v, %v", what, p, s.Value(), ok)
	}
	if want && !bytes.Equal(agg.Lay(nil, s), p) {
		t.Errorf("%s: %x is laid as %x", what, p, agg.Lay(nil, s))
	}
}

// P12.2: what ReadValue gives up at, part by part, and what it doesn't.
func TestReadValuePartByPart(t *testing.T) {
	const half, negated = 0x3fe0000000000000, 1 << 63
	for _, c := range []struct {
		what string
		p    []byte
		want bool
	}{
		{"a telling", valueBytes(2, half, 0, half, half), true},
		{"one that is too great", valueBytes(2, half, 1, half, half), true},
		{"a Count of MaxOffset", valueBytes(api.MaxOffset, half, 0, half, half), true},
		{"a Count above MaxOffset", valueBytes(api.MaxOffset+1, half, 0, half, half), false},
		{"the greatest Count there can be", valueBytes(math.MaxUint64, half, 0, half, half), false},
		{"an Over of 2", valueBytes(2, half, 2, half, half), false},
		{"an Over of 128", valueBytes(2, half, 128, half, half), false},
		{"an Over of 2^32", valueBytes(2, half, 1<<32, half, half), false},
		{"the greatest Over", valueBytes(2, half, math.MaxUint64, half, half), false},
		{"what is no number everywhere", valueBytes(2, theOne, 0, theOne, theOne), true},
		{"-0 everywhere", valueBytes(2, negated, 0, negated, negated), true},
		// The chapter has ReadValue give up at none of these.
		{"a Min above the Max", valueBytes(2, half, 0, half, 0), true},
		{"a Sum, a Min and a Max of no values", valueBytes(0, half, 1, half, theOne), true},
	} {
		checkReadTelling(t, c.what, c.p, c.want)
	}
	for _, b := range noBits {
		checkReadTelling(t, "a Sum of no Bits", valueBytes(2, b, 0, half, half), false)
		checkReadTelling(t, "a Min of no Bits", valueBytes(2, half, 0, b, half), false)
		checkReadTelling(t, "a Max of no Bits", valueBytes(2, half, 0, half, b), false)
	}
}

// checkReadTelling holds what ReadValue does with p against what it should.
func checkReadTelling(t *testing.T, what string, p []byte, want bool) {
	t.Helper()
	a, ok := readValue(p)
	if ok != want || gaveUp(p, readsValue) == want {
		t.Errorf("%s: ReadValue of %x = %+v, %v", what, p, a, ok)
	}
	if want && !bytes.Equal(agg.LayValue(nil, a), p) {
		t.Errorf("%s: %x is laid as %x", what, p, agg.LayValue(nil, a))
	}
}

// number is the number that p begins with, and what is left; false: there is none.
func number(p []byte) (uint64, []byte, bool) {
	n, size := binary.Uvarint(p)
	if size <= 0 || size != len(binary.AppendUvarint(nil, n)) {
		return 0, nil, false
	}
	return n, p[size:], true
}

// isBits tells whether bits are those of a number, or the one's.
func isBits(b uint64) bool {
	return !math.IsNaN(math.Float64frombits(b)) || b == theOne
}

// isState tells whether bytes are a state's, apart from the program.
func isState(p []byte) bool {
	n, p, ok := number(p)
	size, p, sized := number(p)
	if !ok || !sized || n > api.MaxOffset || size > uint64(len(p)) {
		return false
	}
	sum, err := exact.Read(p[:size])
	low, p, ok := number(p[size:])
	high, p, sized := number(p)
	if err != api.OK || !ok || !sized || len(p) > 0 || !isBits(low) || !isBits(high) {
		return false
	}
	if n == 0 {
		return !sum.Any() && low == 0 && high == 0
	}
	return sum.Any()
}

// isValue tells whether bytes are a telling's, apart from the program.
func isValue(p []byte) bool {
	var l [5]uint64
	for i := range l {
		var ok bool
		if l[i], p, ok = number(p); !ok {
			return false
		}
	}
	return len(p) == 0 && l[0] <= api.MaxOffset && isBits(l[1]) && l[2] <= 1 && isBits(l[3]) && isBits(l[4])
}

// checkRead holds Read and ReadValue of any bytes against isState and isValue.
func checkRead(t *testing.T, p []byte) {
	t.Helper()
	s, ok := read(p)
	if ok != isState(p) || ok && !bytes.Equal(agg.Lay(nil, s), p) {
		t.Errorf("Read of %x = %+v, %v", p, s.Value(), ok)
	}
	a, ok := readValue(p)
	if ok != isValue(p) || ok && !bytes.Equal(agg.LayValue(nil, a), p) {
		t.Errorf("ReadValue of %x = %+v, %v", p, a, ok)
	}
}

// P12.2, P1: states and tellings cut short, made longer, with a byte changed.
func TestReadOfSpoiltBytes(t *testing.T) {
	r := rand.New(rand.NewPCG(12, 5))
	for _, l := range someLists() {
		for _, p := range [][]byte{bytesOf(l), bytesOfValue(told(l))} {
			checkRead(t, p)
			for n := range p {
				checkRead(t, p[:n])
				q := bytes.Clone(p)
				q[n] ^= 1 << r.IntN(8)
				checkRead(t, q)
				q[n] = byte(r.IntN(256))
				checkRead(t, q)
				checkRead(t, slices.Insert(q, n, byte(r.IntN(256))))
			}
			checkRead(t, append(bytes.Clone(p), 0))
		}
	}
}

// P1: of no reader, and of one whose Try is over, nothing comes.
func TestNoReader(t *testing.T) {
	var over *column.Reader
	p := agg.LayValue(agg.Lay(nil, stateOf(1, 2)), told([]float64{1, 2}))
	column.Try(p, func(r *column.Reader) { over = r })
	for _, r := range []*column.Reader{nil, over} {
		checkState(t, r, agg.Read(r), api.Agg{})
		if a := agg.ReadValue(r); !alike(a, api.Agg{}) {
			t.Errorf("ReadValue = %+v", a)
		}
		if got := agg.Lay(nil, agg.Read(r)); !bytes.Equal(got, bytesOf(nil)) {
			t.Errorf("what was read is laid as %x", got)
		}
	}
}

// P1: bytes of all kinds are read, or given up at, and what is read goes on.
func FuzzRead(f *testing.F) {
	for _, c := range written {
		f.Add(bytesOf(c.l))
		f.Add(bytesOfValue(c.want))
	}
	f.Fuzz(func(t *testing.T, p []byte) {
		checkRead(t, p)
		if s, ok := read(p); ok {
			s.Add(1).Join(s).Value()
		}
	})
}
