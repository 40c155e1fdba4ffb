package exact_test

import (
	"bytes"
	"math"
	"math/big"
	"math/rand/v2"
	"slices"
	"testing"

	"headrace/api"
	"headrace/exact"
)

const (
	least   = 0x1p-1074
	numBits = 64 * exact.Words
)

var (
	minusZero = math.Copysign(0, -1)
	plusInf   = math.Inf(1)
	minusInf  = math.Inf(-1)
	nan       = math.NaN()
)

func sumOf(l ...float64) exact.Sum {
	var a exact.Sum
	for _, x := range l {
		a = a.Add(x)
	}
	return a
}

// timesTwo is a sum of what a has, 2^n times.
func timesTwo(a exact.Sum, n int) exact.Sum {
	for range n {
		a = a.Join(a)
	}
	return a
}

// units is a finite number times 2^1074.
func units(x float64) *big.Int {
	f := new(big.Float).SetPrec(3000).SetFloat64(x)
	n, _ := f.SetMantExp(f, 1074).Int(nil)
	return n
}

// unitsOf is the exact sum of finite numbers, times 2^1074.
func unitsOf(l []float64) *big.Int {
	n := new(big.Int)
	for _, x := range l {
		n.Add(n, units(x))
	}
	return n
}

// sumOfUnits reads the sum whose exact sum times 2^1074 is n, of whatever was there.
func sumOfUnits(t *testing.T, n *big.Int) exact.Sum {
	t.Helper()
	a, err := exact.Read(append([]byte{24}, bytesOf(n)...))
	if err != api.OK {
		t.Fatalf("Read of %v: %v", n, err)
	}
	return a
}

// bytesOf is a number's two's complement, its lowest byte first, in as few bytes as its sign can be seen from.
func bytesOf(n *big.Int) []byte {
	for size := 0; ; size++ {
		half := new(big.Int).Lsh(big.NewInt(1), uint(8*size))
		half.Rsh(half, 1)
		fits := n.Cmp(half) < 0 && n.Cmp(new(big.Int).Neg(half)) >= 0
		if size == 0 {
			fits = n.Sign() == 0
		}
		if !fits {
			continue
		}
		p := make([]byte, size)
		whole := new(big.Int).Lsh(big.NewInt(1), uint(8*size))
		new(big.Int).Mod(n, whole).FillBytes(p)
		slices.Reverse(p)
		return p
	}
}

// nearest is the number nearest to n times 2^-1074.
func nearest(n *big.Int) (float64, bool) {
	f := new(big.Float).SetPrec(3000).SetInt(n)
	x, _ := f.SetMantExp(f, -1074).Float64()
	return x, math.IsInf(x, 0)
}

// someFinite answers n numbers of all sizes, the same ones for the same seed.
func someFinite(seed uint64, n int) []float64 {
	r := rand.New(rand.NewPCG(seed, 2))
	l := make([]float64, 0, n)
	for len(l) < n {
		x := math.Float64frombits(r.Uint64())
		switch r.IntN(4) {
		case 0:
			x = float64(r.IntN(2000) - 1000)
		case 1:
			x = math.Float64frombits(r.Uint64() & 0x800fffffffffffff)
		}
		if !math.IsNaN(x) && !math.IsInf(x, 0) {
			l = append(l, x)
		}
	}
	return l
}

func sameBits(a, b float64) bool {
	return math.Float64bits(a) == math.Float64bits(b)
}

func checkValue(t *testing.T, what any, a exact.Sum, want float64, wantOver bool) {
	t.Helper()
	if got, over := a.Value(); !sameBits(got, want) || over != wantOver {
		t.Errorf("%v: Value = %v (%x), %v, not %v, %v", what, got, math.Float64bits(got), over, want, wantOver)
	}
}

// P2.1, P2.2: the document's example, and others where plain adding goes wrong.
func TestSumsWithoutError(t *testing.T) {
	for _, c := range []struct {
		l    []float64
		want float64
	}{
		{[]float64{1e300, 1, -1e300}, 1},
		{[]float64{1, 1e300, -1e300}, 1},
		{[]float64{math.MaxFloat64, least, -math.MaxFloat64}, least},
		{[]float64{math.MaxFloat64, math.MaxFloat64, -math.MaxFloat64}, math.MaxFloat64},
		{[]float64{0.1, 0.2, -0.3}, 0x1p-55},
		{[]float64{1, 2, 3}, 6},
		{[]float64{-1.5, 0.25}, -1.25},
		{[]float64{1, -1}, 0},
		{[]float64{-1, 1}, 0},
	} {
		checkValue(t, c.l, sumOf(c.l...), c.want, false)
	}
}

// P2.1: the sum is exact, in every order and grouping, and rounded once.
func TestOrderAndGrouping(t *testing.T) {
	r := rand.New(rand.NewPCG(1, 1))
	for seed := range uint64(60) {
		l := someFinite(seed, 1+int(seed))
		a := sumOf(l...)
		n := unitsOf(l)
		if want := append([]byte{24}, bytesOf(n)...); !bytes.Equal(a.Bytes(), want) {
			t.Fatalf("%v: Bytes = %x, not %x", l, a.Bytes(), want)
		}
		want, over := nearest(n)
		checkValue(t, l, a, want, over)

		r.Shuffle(len(l), func(i, k int) { l[i], l[k] = l[k], l[i] })
		cut := r.IntN(len(l) + 1)
		head, tail := sumOf(l[:cut]...), sumOf(l[cut:]...)
		for _, b := range []exact.Sum{sumOf(l...), head.Join(tail), tail.Join(head)} {
			if !a.Same(b) || a != b {
				t.Fatalf("%v, cut at %d: the sums are not the same", l, cut)
			}
		}
	}
}

// P2.1: nor do they play a part where there is what isn't finite, or a nought.
func TestOrderOfAllKinds(t *testing.T) {
	l := []float64{nan, plusInf, minusInf, minusZero, 0, 1, -1, math.MaxFloat64, -least}
	r := rand.New(rand.NewPCG(3, 1))
	for range 200 {
		k := make([]float64, r.IntN(6))
		for i := range k {
			k[i] = l[r.IntN(len(l))]
		}
		a := sumOf(k...)
		cut := r.IntN(len(k) + 1)
		b := sumOf(k[cut:]...).Join(sumOf(k[:cut]...))
		slices.Reverse(k)
		if c := sumOf(k...); !a.Same(b) || !a.Same(c) || !bytes.Equal(a.Bytes(), b.Bytes()) || !bytes.Equal(a.Bytes(), c.Bytes()) {
			t.Fatalf("%v: %x, %x, %x", k, a.Bytes(), b.Bytes(), c.Bytes())
		}
	}
}

// P2.1: a sum is a value: what it is added to stays as it was.
func TestSumIsAValue(t *testing.T) {
	a, b := sumOf(1, 2), sumOf(nan, 4)
	one, two := a.Bytes(), b.Bytes()
	a.Add(5)
	a.Join(b)
	if !bytes.Equal(a.Bytes(), one) || !bytes.Equal(b.Bytes(), two) {
		t.Error("a sum has changed")
	}
	var nothing exact.Sum
	if !a.Join(nothing).Same(a) || !nothing.Join(a).Same(a) {
		t.Error("joined with nothing, a sum is another")
	}
}

// P2.1: 2^40 of the greatest numbers leave no error behind.
func TestMostNumbers(t *testing.T) {
	for _, sign := range []float64{1, -1} {
		a := timesTwo(sumOf(sign*math.MaxFloat64), 40)
		n := new(big.Int).Lsh(units(sign*math.MaxFloat64), 40)
		if want := append([]byte{24}, bytesOf(n)...); !bytes.Equal(a.Bytes(), want) {
			t.Errorf("Bytes = %x, not %x", a.Bytes(), want)
		}
		checkValue(t, "2^40 of the greatest", a, sign*plusInf, true)
		if b, err := exact.Read(a.Bytes()); err != api.OK || !b.Same(a) {
			t.Errorf("Read = %v", err)
		}
		half := timesTwo(sumOf(sign*math.MaxFloat64), 39)
		back := timesTwo(sumOf(-sign*math.MaxFloat64), 39)
		checkValue(t, "2^39, and as many the other way", half.Join(back).Add(least), least, false)
		checkValue(t, "2^39 of the least", timesTwo(sumOf(sign*least), 39), sign*0x1p-1035, false)
	}
}

// P2.1: Any is of what there is, whatever it comes to.
func TestAny(t *testing.T) {
	var nothing exact.Sum
	if nothing.Any() || nothing.Join(nothing).Any() {
		t.Error("in nothing is something")
	}
	for _, l := range [][]float64{{0}, {minusZero}, {1}, {1, -1}, {nan}, {plusInf}, {minusInf}, {least}} {
		a := sumOf(l...)
		if !a.Any() || !nothing.Join(a).Any() || !a.Join(nothing).Any() {
			t.Errorf("%v: Any = false", l)
		}
	}
}

// P2.1: groups of sums: those in one are the same, those in two are not.
func TestSame(t *testing.T) {
	groups := [][][]float64{
		{{}},
		{{minusZero}, {minusZero, minusZero}},
		{{0}, {0, 0}, {0, minusZero}, {1, -1}, {-1, minusZero, 1}},
		{{1}, {1, 0}, {0.5, 0.5, minusZero}, {2, -1}},
		{{-1}, {1, -2}},
		{{least}, {2 * least, -least}},
		{{-least}},
		{{nan}, {nan, nan}, {nan, 0}, {nan, minusZero}, {math.Float64frombits(0xfff0000000000009)}, {nan, 1, -1}},
		{{nan, 1}, {1, nan}},
		{{plusInf}, {plusInf, plusInf}, {plusInf, 0}, {plusInf, minusZero}},
		{{plusInf, 1}},
		{{minusInf}, {minusInf, minusInf, 0}},
		{{plusInf, minusInf}, {minusInf, plusInf}},
		{{nan, plusInf}},
		{{nan, minusInf}},
		{{nan, plusInf, minusInf}},
		{{math.MaxFloat64, math.MaxFloat64}},
		{{math.MaxFloat64, math.MaxFloat64, 1}},
		{{0x1p1023, 0x1p-1074}},
		{{0x1p1023}},
	}
	for i, group := range groups {
		for _, x := range group {
			for k, other := range groups {
				for _, y := range other {
					if got := sumOf(x...).Same(sumOf(y...)); got != (i == k) {
						t.Errorf("%v and %v: Same = %v", x, y, got)
					}
				}
			}
		}
	}
}

// P2.2: what there is beside finite numbers goes ahead of them.
func TestValueOfKinds(t *testing.T) {
	theOne := math.Float64frombits(0x7ff8000000000000)
	for _, c := range []struct {
		l    []float64
		want float64
	}{
		{nil, 0},
		{[]float64{0}, 0},
		{[]float64{minusZero}, minusZero},
		{[]float64{minusZero, minusZero}, minusZero},
		{[]float64{minusZero, 0}, 0},
		{[]float64{0, minusZero}, 0},
		{[]float64{1, -1}, 0},
		{[]float64{-1, 1, minusZero}, 0},
		{[]float64{-1, minusZero}, -1},
		{[]float64{nan}, theOne},
		{[]float64{math.Float64frombits(0xfff0000000000009)}, theOne},
		{[]float64{nan, 1}, theOne},
		{[]float64{nan, plusInf}, theOne},
		{[]float64{minusInf, nan}, theOne},
		{[]float64{plusInf, minusInf}, theOne},
		{[]float64{minusInf, 1, plusInf}, theOne},
		{[]float64{nan, math.MaxFloat64, math.MaxFloat64}, theOne},
		{[]float64{plusInf}, plusInf},
		{[]float64{plusInf, plusInf, -1e300}, plusInf},
		{[]float64{plusInf, -math.MaxFloat64, -math.MaxFloat64}, plusInf},
		{[]float64{minusInf}, minusInf},
		{[]float64{minusInf, 5}, minusInf},
		{[]float64{minusInf, math.MaxFloat64, math.MaxFloat64}, minusInf},
		{[]float64{plusInf, minusZero}, plusInf},
	} {
		checkValue(t, c.l, sumOf(c.l...), c.want, false)
	}
}

// P2.2: of one number it is that number.
func TestValueOfOne(t *testing.T) {
	for _, x := range append(someFinite(7, 3000), least, -least, 0x1p-1022, -0x1p-1022, 0x0.fffffffffffffp-1022,
		0x1.fffffffffffffp-1022, 0x1p-1021, math.MaxFloat64, -math.MaxFloat64, 0, minusZero) {
		checkValue(t, x, sumOf(x), x, false)
	}
}

// P2.2: at a half the last bit is 0; a least bit more or less decides otherwise.
func TestRoundingAtAHalf(t *testing.T) {
	const even = 0x1p53
	for _, c := range []struct {
		l    []float64
		want float64
	}{
		{[]float64{even, 1}, even},
		{[]float64{even, 1, least}, even + 2},
		{[]float64{even, 1, -least}, even},
		{[]float64{even, 2, 1}, even + 4},
		{[]float64{even, 2, 1, least}, even + 4},
		{[]float64{even, 2, 1, -least}, even + 2},
		{[]float64{even, 0.5}, even},
		{[]float64{even, 1.5}, even + 2},
		{[]float64{2 * even, -1}, 2 * even},
		{[]float64{2*even - 2, 1}, 2 * even},
		{[]float64{1, 0x1p-53}, 1},
		{[]float64{1, 0x1p-53, least}, 1 + 0x1p-52},
		{[]float64{1, 0x1p-52, 0x1p-53}, 1 + 0x1p-51},
		{[]float64{0x1p-1021, least}, 0x1p-1021},
		{[]float64{0x1p-1021, 3 * least}, 0x1p-1021 + 4*least},
		{[]float64{0x1p-1022, -least}, 0x0.fffffffffffffp-1022},
		{[]float64{0x0.fffffffffffffp-1022, least}, 0x1p-1022},
		{[]float64{least, least}, 2 * least},
	} {
		checkValue(t, c.l, sumOf(c.l...), c.want, false)
		for i := range c.l {
			c.l[i] = -c.l[i]
		}
		checkValue(t, c.l, sumOf(c.l...), -c.want, false)
	}
}

// P2.2: the nearest, wherever in the words the half stands.
func TestRoundingEverywhere(t *testing.T) {
	for place := 0; place < 2098-54; place++ {
		for _, head := range []int64{1 << 53, 1<<53 + 1, 1<<53 + 2, 1<<53 + 3, 1<<54 - 1} {
			n := new(big.Int).Lsh(big.NewInt(head), uint(place))
			for _, more := range []int64{-1, 0, 1} {
				m := new(big.Int).Add(n, big.NewInt(more))
				want, over := nearest(m)
				checkValue(t, m, sumOfUnits(t, m), want, over)
				checkValue(t, m, sumOfUnits(t, m.Neg(m)), -want, over)
			}
		}
	}
}

// P2.2: what rounds to 2^1024 is infinite, and told to be too great; what is just below is not.
func TestRoundingIntoTheInfinite(t *testing.T) {
	const halfStep = 0x1p970
	for _, sign := range []float64{1, -1} {
		for _, c := range []struct {
			l    []float64
			want float64
			over bool
		}{
			{[]float64{math.MaxFloat64}, math.MaxFloat64, false},
			{[]float64{math.MaxFloat64, halfStep / 2}, math.MaxFloat64, false},
			{[]float64{math.MaxFloat64, halfStep, -least}, math.MaxFloat64, false},
			{[]float64{math.MaxFloat64, halfStep}, plusInf, true},
			{[]float64{math.MaxFloat64, halfStep, least}, plusInf, true},
			{[]float64{0x1p1023, 0x1p1023}, plusInf, true},
			{[]float64{math.MaxFloat64, math.MaxFloat64}, plusInf, true},
			{[]float64{0x1p1023, 0x1p1023, -least}, plusInf, true},
			{[]float64{0x1p1023, 0x1p1023, -halfStep}, plusInf, true},
			{[]float64{0x1p1023, 0x1p1023, -halfStep, -least}, math.MaxFloat64, false},
		} {
			for i := range c.l {
				c.l[i] *= sign
			}
			checkValue(t, c.l, sumOf(c.l...), sign*c.want, c.over)
		}
	}
}

// P2.2, P1: sums as great as their bytes can tell have values, too.
func TestValueOfTheGreatest(t *testing.T) {
	for bit := uint(2097); bit < numBits; bit++ {
		n := new(big.Int).Lsh(big.NewInt(1), bit)
		over := bit >= 2098
		want, minusWant := 0x1p1023, -0x1p1023
		if over {
			want, minusWant = plusInf, minusInf
		}
		if bit < numBits-1 {
			checkValue(t, bit, sumOfUnits(t, n), want, over)
		}
		checkValue(t, bit, sumOfUnits(t, n.Neg(n)), minusWant, over)
	}
}

// written are sums with their bytes, which are as few as the sign can be seen from.
var written = []struct {
	l []float64
	p []byte
}{
	{nil, []byte{0}},
	{[]float64{minusZero}, []byte{8}},
	{[]float64{minusZero, minusZero}, []byte{8}},
	{[]float64{0}, []byte{24}},
	{[]float64{0, minusZero}, []byte{24}},
	{[]float64{1, -1}, []byte{24}},
	{[]float64{least}, []byte{24, 1}},
	{[]float64{-least}, []byte{24, 0xff}},
	{[]float64{-2 * least}, []byte{24, 0xfe}},
	{[]float64{127 * least}, []byte{24, 0x7f}},
	{[]float64{128 * least}, []byte{24, 0x80, 0}},
	{[]float64{-127 * least}, []byte{24, 0x81}},
	{[]float64{-128 * least}, []byte{24, 0x80}},
	{[]float64{-129 * least}, []byte{24, 0x7f, 0xff}},
	{[]float64{255 * least}, []byte{24, 0xff, 0}},
	{[]float64{256 * least}, []byte{24, 0, 1}},
	{[]float64{-255 * least}, []byte{24, 1, 0xff}},
	{[]float64{-256 * least}, []byte{24, 0, 0xff}},
	{[]float64{0x8000 * least}, []byte{24, 0, 0x80, 0}},
	{[]float64{-0x8000 * least}, []byte{24, 0, 0x80}},
	{[]float64{0x123456 * least}, []byte{24, 0x56, 0x34, 0x12}},
	{[]float64{1}, append(append([]byte{24}, make([]byte, 134)...), 4)},
	{[]float64{-1}, append(append([]byte{24}, make([]byte, 134)...), 0xfc)},
	{[]float64{nan}, []byte{25}},
	{[]float64{nan, minusZero}, []byte{25}},
	{[]float64{plusInf}, []byte{26}},
	{[]float64{minusInf}, []byte{28}},
	{[]float64{plusInf, minusInf}, []byte{30}},
	{[]float64{nan, plusInf}, []byte{27}},
	{[]float64{nan, minusInf}, []byte{29}},
	{[]float64{nan, plusInf, minusInf, 0}, []byte{31}},
	{[]float64{nan, least}, []byte{25, 1}},
	{[]float64{minusInf, -256 * least}, []byte{28, 0, 0xff}},
}

// P2.3: bytes that are written out, and Read of them.
func TestBytesWrittenOut(t *testing.T) {
	for _, c := range written {
		a := sumOf(c.l...)
		if !bytes.Equal(a.Bytes(), c.p) {
			t.Errorf("%v: Bytes = %x, not %x", c.l, a.Bytes(), c.p)
		}
		b, err := exact.Read(c.p)
		if err != api.OK || !b.Same(a) || b != a {
			t.Errorf("%v: Read(%x) = %x, %v", c.l, c.p, b.Bytes(), err)
		}
	}
}

// P2.3: there and back, and on from there.
func TestReadOfBytes(t *testing.T) {
	for seed := range uint64(40) {
		l := append(someFinite(100+seed, 20), []float64{nan, plusInf, minusInf, minusZero}[seed%4])
		a := sumOf(l...)
		b, err := exact.Read(a.Bytes())
		if err != api.OK || !a.Same(b) {
			t.Fatalf("%v: Read = %v", l, err)
		}
		if !a.Add(1e100).Same(b.Add(1e100)) {
			t.Errorf("%v: the sum that was read goes on otherwise", l)
		}
	}
}

// isSum tells whether bytes are of the form of a sum's.
func isSum(p []byte) bool {
	if len(p) == 0 || len(p) > 1+8*exact.Words || p[0] > 31 {
		return false
	}
	anything, other, kinds := p[0]&8 != 0, p[0]&16 != 0, p[0]&7 != 0
	switch n := p[1:]; {
	case other && !anything, kinds && !other, len(n) > 0 && !other:
		return false
	case len(n) == 1 && n[0] == 0:
		return false
	case len(n) > 1 && n[len(n)-1] == 0 && n[len(n)-2] < 0x80:
		return false
	case len(n) > 1 && n[len(n)-1] == 0xff && n[len(n)-2] >= 0x80:
		return false
	}
	return true
}

// checkRead holds Read against isSum, and Bytes against what was read.
func checkRead(t *testing.T, p []byte) {
	t.Helper()
	a, err := exact.Read(p)
	if isSum(p) {
		if err != api.OK || !bytes.Equal(a.Bytes(), p) {
			t.Errorf("Read(%x) = %x, %v", p, a.Bytes(), err)
		}
		return
	}
	if err != api.ErrForm || a != (exact.Sum{}) {
		t.Errorf("Read(%x) = %x, %v", p, a.Bytes(), err)
	}
}

// P2.3, P1: bytes that are no sum, and those that are, of every first byte.
func TestReadOfAllFirstBytes(t *testing.T) {
	tails := [][]byte{nil, {0}, {1}, {0x7f}, {0x80}, {0xff}, {0, 0}, {1, 0}, {0x7f, 0}, {0x80, 0}, {0xff, 0},
		{0, 0xff}, {0x7f, 0xff}, {0x80, 0xff}, {0xff, 0xff}, {0, 1}, {0, 0, 0}, {0xff, 0xff, 0xff}, {0, 0x80, 0xff}}
	checkRead(t, nil)
	checkRead(t, []byte{})
	for first := range 256 {
		for _, tail := range tails {
			checkRead(t, append([]byte{byte(first)}, tail...))
		}
	}
}

// P2.3: a sum has 8 Words bytes of a number at most.
func TestReadOfTheLongest(t *testing.T) {
	for _, size := range []int{8*exact.Words - 1, 8 * exact.Words, 8*exact.Words + 1, 8*exact.Words + 2, 1000} {
		for _, last := range []byte{0, 1, 0x7f, 0x80, 0xfe, 0xff} {
			for _, fill := range []byte{0, 0x55, 0xff} {
				p := append([]byte{24}, bytes.Repeat([]byte{fill}, size-1)...)
				checkRead(t, append(p, last))
			}
		}
	}
}

// P2.3: beside an error nothing is answered.
func TestReadBesideAnError(t *testing.T) {
	for _, p := range [][]byte{nil, {1}, {32}, {0, 1}, {8, 1}, {16}, {24, 0}, {24, 0xff, 0xff}, {25, 1, 0}} {
		if a, err := exact.Read(p); err != api.ErrForm || a.Any() || a != (exact.Sum{}) {
			t.Errorf("Read(%x) = %x, %v", p, a.Bytes(), err)
		}
	}
}

// P2: bytes that are answered, or were read, may be written over.
func TestMemory(t *testing.T) {
	a := sumOf(1, 2, nan)
	want := a.Bytes()
	p := a.Bytes()
	clear(p)
	if !bytes.Equal(a.Bytes(), want) {
		t.Error("bytes that were answered are the sum's own")
	}
	p = bytes.Clone(want)
	b, _ := exact.Read(p)
	if !bytes.Equal(p, want) {
		t.Error("Read has changed its bytes")
	}
	clear(p)
	if !b.Same(a) {
		t.Error("a sum hangs on the bytes it was read from")
	}
}

// P2: asked again, whatever was asked between, a sum answers the same.
func TestAnswersAgain(t *testing.T) {
	var first []float64
	for _, c := range written {
		x, _ := sumOf(c.l...).Value()
		first = append(first, x)
	}
	for i, c := range slices.Backward(written) {
		checkValue(t, c.l, sumOf(c.l...), first[i], false)
		if got := sumOf(c.l...).Bytes(); !bytes.Equal(got, c.p) {
			t.Errorf("%v: Bytes = %x, not %x", c.l, got, c.p)
		}
	}
}

// P1: bytes of all kinds are read, or told to be none, and what is read has a value.
func FuzzRead(f *testing.F) {
	for _, c := range written {
		f.Add(c.p)
	}
	f.Fuzz(func(t *testing.T, p []byte) {
		checkRead(t, p)
		if a, err := exact.Read(p); err == api.OK {
			a.Add(1).Join(a).Value()
		}
	})
}
