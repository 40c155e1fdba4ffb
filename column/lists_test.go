package column_test

import (
	"bytes"
	"fmt"
	"math"
	"math/rand/v2"
	"slices"
	"strings"
	"testing"

	"headrace/api"
	"headrace/column"
)

// P3.3: bytes that are written out.
func TestTextsWrittenOut(t *testing.T) {
	for _, c := range []struct {
		l []string
		p []byte
	}{
		{nil, []byte{0, 0, 0}},
		{[]string{""}, []byte{1, 0, 0, 1, 0}},
		{[]string{"a"}, []byte{1, 1, 'a', 0, 1, 0}},
		{[]string{"b", "a"}, []byte{2, 1, 'a', 1, 'b', 0, 2, 2, 0}},
		{[]string{"a", "a", "a"}, []byte{1, 1, 'a', 2, 3, 0, 2}},
		{[]string{"b", "", "b", "ab"}, []byte{3, 0, 2, 'a', 'b', 1, 'b', 3, 4, 0, 2, 0b01100010}},
		{[]string{"\xff", "\x7f", "Z", "a"}, []byte{4, 1, 'Z', 1, 'a', 1, 0x7f, 1, 0xff, 3, 4, 0, 2, 0b01001011}},
	} {
		if got := column.Texts(c.l); !bytes.Equal(got, c.p) {
			t.Errorf("Texts(%q) = %x, not %x", c.l, got, c.p)
		}
		if got, err := column.ReadTexts(c.p); err != api.OK || !slices.Equal(got, c.l) {
			t.Errorf("ReadTexts(%x) = %q, %v", c.p, got, err)
		}
	}
}

// someTexts are n texts, of which at most kinds are unlike.
func someTexts(n, kinds int) []string {
	r := rand.New(rand.NewPCG(uint64(n), uint64(kinds)))
	l := make([]string, n)
	for i := range l {
		l[i] = fmt.Sprint("key ", r.IntN(kinds))
	}
	return l
}

// P3.3: there and back.
func TestReadTextsOfTexts(t *testing.T) {
	for _, l := range [][]string{
		nil, someTexts(10, 2), someTexts(100, 200), someTexts(api.MaxRows, 50), someTexts(api.MaxRows, 1<<30),
		{strings.Repeat("k", api.MaxKey), "", strings.Repeat("k", api.MaxKey-1)},
		{"Grüße", "\x00", "\xff\xfe", ""},
	} {
		p := column.Texts(l)
		if got, err := column.ReadTexts(p); err != api.OK || !slices.Equal(got, l) {
			t.Errorf("%d texts: ReadTexts = %v", len(l), err)
		}
	}
}

// laidTexts lays unlike texts and places as they are handed in.
func laidTexts(unlike []string, places []byte) []byte {
	p := column.Uint(nil, uint64(len(unlike)))
	for _, s := range unlike {
		p = column.Text(p, s)
	}
	return append(p, places...)
}

// P3.3: places are read in whatever way they were laid.
func TestReadTextsInAllWays(t *testing.T) {
	places := []int64{1, 1, 0, 2}
	for _, way := range allWays {
		p := laidTexts([]string{"a", "b", "c"}, column.As(way, places))
		if got, err := column.ReadTexts(p); err != api.OK || !slices.Equal(got, []string{"b", "b", "a", "c"}) {
			t.Errorf("way %d: ReadTexts = %q, %v", way, got, err)
		}
	}
	parted := laidTexts([]string{"a"}, []byte{2, 3, 0, 0, 0, 1})
	if got, err := column.ReadTexts(parted); err != api.OK || !slices.Equal(got, []string{"a", "a", "a"}) {
		t.Errorf("parted runs: ReadTexts = %q, %v", got, err)
	}
}

// P3.3: bytes that are no texts.
func TestReadTextsOfNoTexts(t *testing.T) {
	places := func(l ...int64) []byte { return column.Ints(l) }
	whole := laidTexts([]string{"a", "b"}, places(0, 1, 1))
	bad := [][]byte{
		laidTexts([]string{"b", "a"}, places(0, 1)),
		laidTexts([]string{"a", "a"}, places(0, 1)),
		laidTexts([]string{"a", "b", "b"}, places(0, 1, 2)),
		laidTexts([]string{"a", "b"}, places(0, 0)),
		laidTexts([]string{"a", "b"}, places(1, 1)),
		laidTexts([]string{"a", "b"}, places(0, 1, 2)),
		laidTexts([]string{"a", "b"}, places(0, 1, -1)),
		laidTexts([]string{"a", "b"}, places(0, 1, math.MaxInt64)),
		laidTexts([]string{"a", "b"}, places(0, 1, math.MinInt64)),
		laidTexts([]string{"a", "b"}, places(0, 1, 1<<32)),
		laidTexts([]string{"a"}, places()),
		laidTexts(nil, places(0)),
		laidTexts(nil, nil),
		laidTexts([]string{"a"}, nil),
		laidTexts([]string{strings.Repeat("k", api.MaxKey+1)}, places(0)),
		append(bytes.Clone(whole), 0),
		{2, 1, 'a'},
		{0x80, 0, 0, 0},
		{1, 0x81, 0, 'a', 0, 1, 0},
	}
	for n := range whole {
		bad = append(bad, whole[:n])
	}
	for _, n := range []uint64{api.MaxRows + 1, 1 << 32, math.MaxUint64} {
		bad = append(bad, append(column.Uint(nil, n), whole[1:]...))
	}
	for _, p := range bad {
		if l, err := column.ReadTexts(p); err != api.ErrForm || len(l) != 0 {
			t.Errorf("ReadTexts(%x) = %q, %v", p, l, err)
		}
	}
}

// P3.3: MaxRows texts are read, all alike or all unlike, and no more.
func TestReadTextsRows(t *testing.T) {
	unlike := make([]string, api.MaxRows+1)
	for i := range unlike {
		unlike[i] = fmt.Sprintf("%05d", i)
	}
	for _, l := range [][]string{unlike, slices.Repeat([]string{"a"}, api.MaxRows+1)} {
		if got, err := column.ReadTexts(column.Texts(l[1:])); err != api.OK || !slices.Equal(got, l[1:]) {
			t.Errorf("MaxRows texts: %v", err)
		}
		if got, err := column.ReadTexts(column.Texts(l)); err != api.ErrForm || len(got) != 0 {
			t.Errorf("one more: %v", err)
		}
	}
}

// P3.3: Reals is Ints of the Bits; what is no number is one.
func TestReals(t *testing.T) {
	none := math.Float64frombits(0xfff0000000000009)
	l := []float64{0, math.Copysign(0, -1), 1, -1.5, 5e-324, math.MaxFloat64, math.Inf(1), math.Inf(-1), math.NaN(), none}
	whole := make([]int64, len(l))
	for i, x := range l {
		whole[i] = int64(math.Float64bits(x))
		if x != x {
			whole[i] = 0x7ff8000000000000
		}
	}
	p := column.Reals(l)
	if !bytes.Equal(p, column.Ints(whole)) {
		t.Errorf("Reals = %x", p)
	}
	for _, way := range allWays {
		checkReals(t, column.As(way, whole), whole)
	}
	checkReals(t, p, whole)
	if got := column.Reals([]float64{5e-324, 5e-324, 5e-324}); !bytes.Equal(got, []byte{2, 3, 2, 2}) {
		t.Errorf("Reals of the least = %x", got)
	}
	if got := column.Reals(nil); !bytes.Equal(got, []byte{0, 0}) {
		t.Errorf("Reals of none = %x", got)
	}
	if got, err := column.ReadReals([]byte{0, 0}); err != api.OK || len(got) != 0 {
		t.Errorf("ReadReals of none = %v, %v", got, err)
	}
}

// checkReals reads numbers whose bits are want.
func checkReals(t *testing.T, p []byte, want []int64) {
	t.Helper()
	got, err := column.ReadReals(p)
	if err != api.OK || len(got) != len(want) {
		t.Fatalf("ReadReals(%x) = %v, %v", p, got, err)
	}
	for i, x := range got {
		if math.Float64bits(x) != uint64(want[i]) {
			t.Errorf("ReadReals(%x): number %d is %v", p, i, x)
		}
	}
}

// P3.3: what ReadInts doesn't read, and bits of what is no number other than the one's.
func TestReadRealsOfNoReals(t *testing.T) {
	bad := [][]byte{nil, {0}, {4, 0}, {0, 1}, {0, 0, 0}, {2, 1, 0, 1}, {3, 1, 0, 1, 2}, column.Ints(make([]int64, api.MaxRows+1))}
	for _, b := range []uint64{0x7ff8000000000001, 0x7ff0000000000001, 0x7fffffffffffffff, 0xfff8000000000000, 0xfff0000000000001, math.MaxUint64} {
		for _, way := range allWays {
			bad = append(bad, column.As(way, []int64{int64(b)}), column.As(way, []int64{0, int64(b), 1}))
		}
	}
	for _, p := range bad {
		if l, err := column.ReadReals(p); err != api.ErrForm || len(l) != 0 {
			t.Errorf("ReadReals(%x) = %v, %v", p, l, err)
		}
	}
	if l, err := column.ReadReals(column.Reals(make([]float64, api.MaxRows))); err != api.OK || len(l) != api.MaxRows {
		t.Errorf("MaxRows numbers: %v", err)
	}
}

// P2: neither lists nor bytes that are handed in are changed, nor kept.
func TestListsMemory(t *testing.T) {
	texts := []string{"c", "a", "b", "a"}
	p := column.Texts(texts)
	want := bytes.Clone(p)
	got, _ := column.ReadTexts(p)
	if !slices.Equal(texts, []string{"c", "a", "b", "a"}) || !bytes.Equal(p, want) {
		t.Errorf("what was handed in has changed: %q, %x", texts, p)
	}
	clear(p)
	if !slices.Equal(got, texts) {
		t.Errorf("texts hang on the bytes they were read from: %q", got)
	}
	reals := []float64{3, math.Float64frombits(0xfff0000000000009), 1}
	q := column.Reals(reals)
	if reals[0] != 3 || math.Float64bits(reals[1]) != 0xfff0000000000009 || reals[2] != 1 {
		t.Errorf("Reals has changed its list: %v", reals)
	}
	back, _ := column.ReadReals(q)
	clear(q)
	if back[0] != 3 || back[2] != 1 {
		t.Errorf("numbers hang on the bytes they were read from: %v", back)
	}
}

// P1: Texts and Reals of lists of which nothing is promised end, too.
func TestListsBeyondThePromise(t *testing.T) {
	column.Texts(someTexts(3*api.MaxRows, 1<<30))
	column.Texts([]string{strings.Repeat("k", 1<<16)})
	column.Reals(make([]float64, 3*api.MaxRows))
}

// textsOf are the texts of some bytes, if they are such.
func textsOf(p []byte) ([]string, bool) {
	c := &cursor{p, true}
	n := c.uint()
	var unlike []string
	for c.ok && uint64(len(unlike)) < n {
		size := c.uint()
		if !c.ok || size > uint64(len(c.p)) || size > api.MaxKey {
			return nil, false
		}
		s := string(c.p[:size])
		if k := len(unlike); k > 0 && unlike[k-1] >= s {
			return nil, false
		}
		unlike = append(unlike, s)
		c.p = c.p[size:]
	}
	if !c.ok {
		return nil, false
	}
	places, ok := intsOf(c.p)
	used := map[int64]bool{}
	var l []string
	for _, place := range places {
		if !ok || place < 0 || place >= int64(n) {
			return nil, false
		}
		used[place] = true
		l = append(l, unlike[place])
	}
	return l, ok && uint64(len(used)) == n
}

// checkReadLists holds ReadTexts and ReadReals against textsOf and intsOf.
func checkReadLists(t *testing.T, p []byte) {
	t.Helper()
	texts, ok := textsOf(p)
	got, err := column.ReadTexts(p)
	if ok && (err != api.OK || !slices.Equal(got, texts)) || !ok && (err != api.ErrForm || len(got) != 0) {
		t.Errorf("ReadTexts(%x) = %q, %v, not %q, %v", p, got, err, texts, ok)
	}
	whole, ok := intsOf(p)
	for _, n := range whole {
		if x := math.Float64frombits(uint64(n)); x != x && n != 0x7ff8000000000000 {
			ok = false
		}
	}
	reals, err := column.ReadReals(p)
	if ok != (err == api.OK) || !ok && (err != api.ErrForm || len(reals) != 0) || ok && len(reals) != len(whole) {
		t.Errorf("ReadReals(%x) = %v, %v", p, reals, err)
	}
	for i, x := range reals {
		if math.Float64bits(x) != uint64(whole[i]) {
			t.Errorf("ReadReals(%x): number %d is %v", p, i, x)
		}
	}
}

// P3.3, P1: texts and numbers cut short, made longer, with a byte changed.
func TestReadListsOfSpoiltBytes(t *testing.T) {
	r := rand.New(rand.NewPCG(4, 4))
	laid := [][]byte{column.Reals([]float64{1, -2, 0.5, math.NaN(), math.Inf(1)}), column.Reals(make([]float64, 30))}
	for n := range 30 {
		laid = append(laid, column.Texts(someTexts(n, 1+n/3)))
	}
	for _, p := range laid {
		checkReadLists(t, p)
		for n := range p {
			checkReadLists(t, p[:n])
		}
		for range 300 {
			q := bytes.Clone(p)
			q[r.IntN(len(q))] = byte(r.IntN(256))
			checkReadLists(t, q)
			checkReadLists(t, append(q, byte(r.IntN(256))))
		}
	}
}

// P3.3, P1: bytes of all kinds.
func FuzzReadLists(f *testing.F) {
	f.Add(column.Texts([]string{"b", "a", "", "b"}))
	f.Add(column.Reals([]float64{1, math.NaN()}))
	f.Fuzz(func(t *testing.T, p []byte) { checkReadLists(t, p) })
}
