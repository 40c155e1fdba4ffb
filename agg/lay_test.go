package agg_test

import (
	"bytes"
	"encoding/binary"
	"math"
	"math/rand/v2"
	"slices"
	"strings"
	"testing"

	"headrace/agg"
	"headrace/api"
	"headrace/column"
	"headrace/exact"
)

// laidBehind are numbers as column.Uint lays them, behind p, laid apart from the program.
func laidBehind(p []byte, l ...uint64) []byte {
	for _, n := range l {
		p = binary.AppendUvarint(p, n)
	}
	return p
}

// stateBytes are a state's bytes, of these parts, whether or not it is one.
func stateBytes(n uint64, sum []byte, least, greatest uint64) []byte {
	p := laidBehind(nil, n, uint64(len(sum)))
	return laidBehind(append(p, sum...), least, greatest)
}

// valueBytes are a telling's bytes, of these parts, whether or not it is one.
func valueBytes(count, sum, over, least, greatest uint64) []byte {
	return laidBehind(nil, count, sum, over, least, greatest)
}

// sumBytes are the Bytes of the sum of values.
func sumBytes(l ...float64) []byte {
	var sum exact.Sum
	for _, x := range l {
		sum = sum.Add(x)
	}
	return sum.Bytes()
}

// bytesOf are the bytes of a state of these values, laid apart from the program.
func bytesOf(l []float64) []byte {
	a := told(l)
	return stateBytes(a.Count, sumBytes(l...), math.Float64bits(a.Min), math.Float64bits(a.Max))
}

// bytesOfValue are the bytes of a telling, laid apart from the program.
func bytesOfValue(a api.Agg) []byte {
	a = canonOf(a)
	var over uint64
	if a.Over {
		over = 1
	}
	return valueBytes(a.Count, math.Float64bits(a.Sum), over, math.Float64bits(a.Min), math.Float64bits(a.Max))
}

// read answers what Read answers of p, and whether it was all of p.
func read(p []byte) (s agg.State, ok bool) {
	ok = column.Try(p, func(r *column.Reader) { s = agg.Read(r) })
	return s, ok
}

func readValue(p []byte) (a api.Agg, ok bool) {
	ok = column.Try(p, func(r *column.Reader) { a = agg.ReadValue(r) })
	return a, ok
}

// P12.2: states' bytes that are written out.
func TestLayWrittenOut(t *testing.T) {
	const one, minusOne = "\x80\x80\x80\x80\x80\x80\x80\xf8\x3f", "\x80\x80\x80\x80\x80\x80\x80\xf8\xbf\x01"
	const negated, infinite, minusInfinite = "\x80\x80\x80\x80\x80\x80\x80\x80\x80\x01", "\x80\x80\x80\x80\x80\x80\x80\xf8\x7f", "\x80\x80\x80\x80\x80\x80\x80\xf8\xff\x01"
	const noNumber = "\x80\x80\x80\x80\x80\x80\x80\xfc\x7f"
	for _, c := range []struct {
		l []float64
		p string
	}{
		{nil, "\x00" + "\x01\x00" + "\x00" + "\x00"},
		{[]float64{0}, "\x01" + "\x01\x18" + "\x00" + "\x00"},
		{[]float64{minusZero}, "\x01" + "\x01\x08" + negated + negated},
		{[]float64{0, minusZero}, "\x02" + "\x01\x18" + negated + "\x00"},
		{[]float64{least}, "\x01" + "\x02\x18\x01" + "\x01" + "\x01"},
		{[]float64{least, least, 3 * least}, "\x03" + "\x02\x18\x05" + "\x01" + "\x03"},
		{[]float64{200 * least, -200 * least}, "\x02" + "\x01\x18" + "\xc8\x81\x80\x80\x80\x80\x80\x80\x80\x01" + "\xc8\x01"},
		{[]float64{nan}, "\x01" + "\x01\x19" + noNumber + noNumber},
		{[]float64{none[2], 1, -1}, "\x03" + "\x01\x19" + minusOne + noNumber},
		{[]float64{plusInf, minusInf}, "\x02" + "\x01\x1e" + minusInfinite + infinite},
		{[]float64{1}, "\x01" + "\x88\x01\x18" + strings.Repeat("\x00", 134) + "\x04" + one + one},
		{slices.Repeat([]float64{1, -1}, 100), "\xc8\x01" + "\x01\x18" + minusOne + one},
	} {
		if got := agg.Lay(nil, stateOf(c.l...)); string(got) != c.p {
			t.Errorf("%v: Lay = %x, not %x", c.l, got, c.p)
		}
		s, ok := read([]byte(c.p))
		if !ok {
			t.Errorf("%v: Read gives up", c.l)
		}
		checkState(t, c.l, s, told(c.l))
	}
}

// P12.2: tellings' bytes that are written out.
func TestLayValueWrittenOut(t *testing.T) {
	const six, three, one = "\x80\x80\x80\x80\x80\x80\x80\x8c\x40", "\x80\x80\x80\x80\x80\x80\x80\x84\x40", "\x80\x80\x80\x80\x80\x80\x80\xf8\x3f"
	const infinite, noNumber = "\x80\x80\x80\x80\x80\x80\x80\xf8\x7f", "\x80\x80\x80\x80\x80\x80\x80\xfc\x7f"
	const negated = "\x80\x80\x80\x80\x80\x80\x80\x80\x80\x01"
	for _, c := range []struct {
		a api.Agg
		p string
	}{
		{api.Agg{}, "\x00\x00\x00\x00\x00"},
		{api.Agg{Count: 3, Sum: 6, Min: 1, Max: 3}, "\x03" + six + "\x00" + one + three},
		{api.Agg{Count: 2, Sum: plusInf, Over: true, Min: 1, Max: plusInf}, "\x02" + infinite + "\x01" + one + infinite},
		{api.Agg{Count: 300, Sum: nan, Min: minusZero, Max: nan}, "\xac\x02" + noNumber + "\x00" + negated + noNumber},
		{api.Agg{Count: 1, Sum: least, Min: 2 * least, Max: 3 * least}, "\x01\x01\x00\x02\x03"},
		{api.Agg{Count: api.MaxOffset, Over: true}, "\x80\x80\x80\x80\x80\x20" + "\x00\x01\x00\x00"},
	} {
		if got := agg.LayValue(nil, c.a); string(got) != c.p {
			t.Errorf("%+v: LayValue = %x, not %x", c.a, got, c.p)
		}
		if got, ok := readValue([]byte(c.p)); !ok || !alike(got, c.a) {
			t.Errorf("%x: ReadValue = %+v, %v, not %+v", c.p, got, ok, c.a)
		}
	}
}

// P12.2: what is no number is laid with the one's bits, whatever it has.
func TestLayValueOfNoNumbers(t *testing.T) {
	want := valueBytes(4, theOne, 0, theOne, theOne)
	for _, x := range none {
		if got := agg.LayValue(nil, api.Agg{Count: 4, Sum: x, Min: x, Max: x}); !bytes.Equal(got, want) {
			t.Errorf("%x: LayValue = %x, not %x", math.Float64bits(x), got, want)
		}
	}
}

// someLists are values with and without what isn't finite: none, one, many.
func someLists() [][]float64 {
	var l [][]float64
	for _, c := range written {
		l = append(l, c.l)
	}
	for _, x := range slices.Concat(kinds, none) {
		l = append(l, []float64{x})
	}
	r := rand.New(rand.NewPCG(12, 4))
	for n := range 60 {
		l = append(l, someValues(r, n))
	}
	return l
}

// P12.2: a state stands behind any bytes, as it is, and comes back as it was.
func TestReadOfLay(t *testing.T) {
	for _, l := range someLists() {
		for _, head := range []string{"", "\x00", "any bytes"} {
			p := agg.Lay([]byte(head), stateOf(l...))
			if want := head + string(bytesOf(l)); string(p) != want {
				t.Fatalf("%v behind %q: Lay = %x, not %x", l, head, p, want)
			}
			s, ok := read(p[len(head):])
			if !ok || !bytes.Equal(agg.Lay(nil, s), p[len(head):]) {
				t.Errorf("%v: read as %x, %v", l, agg.Lay(nil, s), ok)
			}
			checkState(t, l, s, told(l))
		}
	}
}

// P12.2: so does a telling.
func TestReadValueOfLayValue(t *testing.T) {
	for _, l := range someLists() {
		a := told(l)
		for _, head := range []string{"", "\x00", "any bytes"} {
			p := agg.LayValue([]byte(head), a)
			if want := head + string(bytesOfValue(a)); string(p) != want {
				t.Fatalf("%+v behind %q: LayValue = %x, not %x", a, head, p, want)
			}
			if got, ok := readValue(p[len(head):]); !ok || !alike(got, a) {
				t.Errorf("%x: ReadValue = %+v, %v, not %+v", p, got, ok, a)
			}
		}
	}
}

// P12.2: what was read goes on as what was laid: with values more, and joined on either side.
func TestReadStateGoesOn(t *testing.T) {
	lists := someLists()
	for i, l := range lists {
		more := lists[(i+7)%len(lists)]
		s, ok := read(agg.Lay(nil, stateOf(l...)))
		if !ok {
			t.Fatalf("%v: Read gives up", l)
		}
		want := told(slices.Concat(l, more))
		checkState(t, []any{l, more}, s.Join(stateOf(more...)), want)
		checkState(t, []any{more, l}, stateOf(more...).Join(s), want)
		for _, x := range more {
			s = s.Add(x)
		}
		checkState(t, []any{l, more, "one by one"}, s, want)
		if got := agg.Lay(nil, s); !bytes.Equal(got, bytesOf(slices.Concat(l, more))) {
			t.Errorf("%v, and %v: laid as %x", l, more, got)
		}
	}
}

// P12.2: states and tellings are read one behind the other, with others' things between.
func TestOneBehindTheOther(t *testing.T) {
	lists := someLists()
	var p []byte
	for i, l := range lists {
		p = agg.Lay(p, stateOf(l...))
		p = column.Text(p, "between")
		p = agg.LayValue(p, told(l))
		p = column.Int(p, int64(-i))
	}
	if !column.Try(p, func(r *column.Reader) {
		for i, l := range lists {
			checkState(t, l, agg.Read(r), told(l))
			text := r.Text(7)
			a := agg.ReadValue(r)
			if n := r.Int(); text != "between" || !alike(a, told(l)) || n != int64(-i) {
				t.Errorf("%v: %q, %+v, %d", l, text, a, n)
			}
		}
	}) {
		t.Error("not all of the bytes were read")
	}
}

// P12.2: a state of MaxOffset values comes back.
func TestReadOfMostValues(t *testing.T) {
	for _, x := range []float64{greatest, -greatest, least, -least, minusZero, 0, nan, plusInf} {
		s := timesTwo(stateOf(x), 40)
		p := agg.Lay(nil, s)
		got, ok := read(p)
		if !ok || got.Len() != api.MaxOffset || !alike(got.Value(), s.Value()) || !bytes.Equal(agg.Lay(nil, got), p) {
			t.Errorf("%v: read as %+v, %v", x, got.Value(), ok)
		}
		if _, ok := read(agg.Lay(nil, s.Add(x))); ok {
			t.Errorf("%v: one more than MaxOffset is read", x)
		}
	}
}

// P2: bytes that were read, and bytes that were answered, may be written over; what stands ahead stays.
func TestMemory(t *testing.T) {
	l := []float64{1.5, -3, greatest}
	s, a := stateOf(l...), told(l)
	p := agg.Lay(nil, s)
	back, _ := read(p)
	q := agg.LayValue(nil, a)
	value, _ := readValue(q)
	if !bytes.Equal(p, bytesOf(l)) || !bytes.Equal(q, bytesOfValue(a)) {
		t.Error("reading has changed its bytes")
	}
	for i := range p {
		p[i] = 0xaa
	}
	for i := range q {
		q[i] = 0xaa
	}
	checkState(t, "laid", s, a)
	checkState(t, "read", back, a)
	if !alike(value, a) || !bytes.Equal(agg.Lay(nil, back), bytesOf(l)) || !bytes.Equal(agg.LayValue(nil, value), bytesOfValue(a)) {
		t.Error("what was read hangs on the bytes that it was read from")
	}
	for _, room := range []int{3, 4, 20, 1000} {
		head := append(make([]byte, 0, room), "abc"...)
		if got := agg.Lay(head, s); string(head) != "abc" || string(got) != "abc"+string(bytesOf(l)) {
			t.Errorf("room of %d: Lay = %x behind %q", room, got, head)
		}
		if got := agg.LayValue(head, a); string(head) != "abc" || string(got) != "abc"+string(bytesOfValue(a)) {
			t.Errorf("room of %d: LayValue = %x behind %q", room, got, head)
		}
	}
}
