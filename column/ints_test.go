package column_test

import (
	"bytes"
	"math"
	"math/big"
	"math/rand/v2"
	"slices"
	"testing"

	"headrace/api"
	"headrace/column"
)

var allWays = []byte{column.Plain, column.Delta, column.Runs, column.Packed}

// lists are numbers of many kinds: few, many, near and far from one another.
func lists() [][]int64 {
	l := [][]int64{
		nil, {0}, {1}, {-1}, {7, 7, 7}, {0, 0}, {1, 2, 3, 4, 5, 6, 7}, {5, 5, 5, 9, 9, 5},
		{math.MinInt64}, {math.MaxInt64}, {math.MinInt64, math.MaxInt64}, {math.MaxInt64, math.MinInt64},
		{math.MinInt64, -1, 0, math.MaxInt64}, {math.MinInt64, math.MinInt64}, {0, math.MinInt64, 0},
		make([]int64, api.MaxRows),
	}
	r := rand.New(rand.NewPCG(5, 5))
	for w := range 65 {
		for _, n := range []int{2, 9, 40} {
			some := make([]int64, n)
			for i := range some {
				some[i] = int64(r.Uint64()&(1<<w-1)) - int64(w*w)
			}
			l = append(l, some)
		}
	}
	rising := make([]int64, api.MaxRows)
	runs := make([]int64, 300)
	for i := range rising {
		rising[i] = 1<<40 + int64(1000*i)
	}
	for i := range runs {
		runs[i] = int64(i * i / 5000)
	}
	return append(l, rising, runs)
}

// P3.2: bytes that are written out, in each way.
func TestAsWrittenOut(t *testing.T) {
	const most, least = math.MaxInt64, math.MinInt64
	ff9 := bytes.Repeat([]byte{0xff}, 9)
	for _, c := range []struct {
		way byte
		l   []int64
		p   []byte
	}{
		{column.Plain, nil, []byte{0, 0}},
		{column.Delta, nil, []byte{1, 0}},
		{column.Runs, nil, []byte{2, 0}},
		{column.Packed, nil, []byte{3, 0}},
		{column.Plain, []int64{7, 7, 7}, []byte{0, 3, 14, 14, 14}},
		{column.Delta, []int64{7, 7, 7}, []byte{1, 3, 14, 0, 0}},
		{column.Runs, []int64{7, 7, 7}, []byte{2, 3, 14, 2}},
		{column.Packed, []int64{7, 7, 7}, []byte{3, 3, 14, 0}},
		{column.Plain, []int64{-1, 64}, []byte{0, 2, 1, 0x80, 1}},
		{column.Delta, []int64{5, 3, 10}, []byte{1, 3, 10, 3, 14}},
		{column.Delta, []int64{least, most}, slices.Concat([]byte{1, 2}, ff9, []byte{1, 1})},
		{column.Delta, []int64{most, least}, slices.Concat([]byte{1, 2, 0xfe}, ff9[1:], []byte{1, 2})},
		{column.Runs, []int64{5, 5, 9, 5}, []byte{2, 4, 10, 1, 18, 0, 10, 0}},
		{column.Packed, []int64{1, 0, 1, 1, 0, 0, 0, 0, 1}, []byte{3, 9, 0, 1, 0b00001101, 1}},
		{column.Packed, []int64{-3, 4, -2}, []byte{3, 3, 5, 3, 0b01111000, 0}},
		{column.Packed, []int64{10, 2, 12}, []byte{3, 3, 4, 4, 0x08, 0x0a}},
		{column.Packed, []int64{0, 0x1ff, 0x155}, []byte{3, 3, 0, 9, 0x00, 0xfe, 0x57, 0x05}},
		{column.Packed, []int64{least, most}, slices.Concat([]byte{3, 2}, ff9, []byte{1, 64}, make([]byte, 8), ff9[1:])},
	} {
		if got := column.As(c.way, c.l); !bytes.Equal(got, c.p) {
			t.Errorf("As(%d, %v) = %x, not %x", c.way, c.l, got, c.p)
		}
		if got, err := column.ReadInts(c.p); err != api.OK || !slices.Equal(got, c.l) {
			t.Errorf("ReadInts(%x) = %v, %v", c.p, got, err)
		}
	}
}

// P3.2: Ints is the shortest way, of several the first.
func TestInts(t *testing.T) {
	for _, l := range lists() {
		best := column.As(column.Plain, l)
		for _, way := range allWays {
			if p := column.As(way, l); len(p) < len(best) {
				best = p
			}
		}
		if got := column.Ints(l); !bytes.Equal(got, best) {
			t.Errorf("%v: Ints = %x, not %x", l, got, best)
		}
	}
	for _, c := range []struct {
		l   []int64
		way byte
	}{
		{nil, column.Plain},
		{[]int64{5}, column.Plain},
		{[]int64{7, 7, 7}, column.Runs},
		{[]int64{1000, 1001, 1002, 1003, 1004, 1005, 1006}, column.Packed},
		{[]int64{1000, -5, 3, 900000000, 1}, column.Plain},
		{[]int64{1 << 40, 1<<40 + 50, 1<<40 + 100, 1<<40 + 150}, column.Delta},
		{[]int64{0, 1, 2, 3, 4, 5, 6, 7}, column.Packed},
	} {
		if got := column.Ints(c.l); got[0] != c.way {
			t.Errorf("%v: Ints = %x, not in way %d", c.l, got, c.way)
		}
	}
	if got := column.Ints([]int64{7, 7, 7}); !bytes.Equal(got, []byte{2, 3, 14, 2}) {
		t.Errorf("Ints(7, 7, 7) = %x", got)
	}
}

// P3.2: there and back, in every way.
func TestReadIntsOfAs(t *testing.T) {
	for _, l := range lists() {
		ps := [][]byte{column.Ints(l)}
		for _, way := range allWays {
			p := column.As(way, l)
			if p[0] != way {
				t.Errorf("As(%d) begins with %d", way, p[0])
			}
			ps = append(ps, p)
		}
		for _, p := range ps {
			if got, err := column.ReadInts(p); err != api.OK || !slices.Equal(got, l) {
				t.Errorf("%v: ReadInts(%x) = %v, %v", l, p, got, err)
			}
		}
	}
}

// P3.2: runs may be parted; w and the least may be others.
func TestReadIntsLaidOtherwise(t *testing.T) {
	for _, c := range []struct {
		p []byte
		l []int64
	}{
		{[]byte{2, 3, 14, 0, 14, 1}, []int64{7, 7, 7}},
		{[]byte{2, 3, 14, 0, 14, 0, 14, 0}, []int64{7, 7, 7}},
		{[]byte{3, 3, 14, 1, 0}, []int64{7, 7, 7}},
		{[]byte{3, 3, 0, 3, 0xff, 1}, []int64{7, 7, 7}},
		{[]byte{3, 1, 0, 64, 7, 0, 0, 0, 0, 0, 0, 0}, []int64{7}},
		{[]byte{3, 1, 16, 64, 0xff, 0xff, 0xff, 0xff, 0xff, 0xff, 0xff, 0xff}, []int64{7}},
		{[]byte{3, 2, 13, 4, 0xf0}, []int64{-7, 8}},
		{append(append([]byte{3, 1, 0xfe}, bytes.Repeat([]byte{0xff}, 8)...), 1, 1, 1), []int64{math.MinInt64}},
	} {
		if got, err := column.ReadInts(c.p); err != api.OK || !slices.Equal(got, c.l) {
			t.Errorf("ReadInts(%x) = %v, %v", c.p, got, err)
		}
	}
}

// P3.2: bytes that As never makes.
func TestReadIntsOfNoColumn(t *testing.T) {
	for _, p := range [][]byte{
		nil, {}, {0}, {1}, {2}, {3}, {4}, {4, 0}, {255, 0}, {4, 1, 0},
		{0, 1}, {0, 2, 5}, {0, 1, 5, 5}, {0, 0, 0}, {0, 1, 0x80}, {0, 1, 0x80, 0}, {0, 0x80, 0}, {0, 0x81, 0, 2},
		{1, 1}, {1, 2, 5}, {1, 1, 5, 5}, {1, 0, 0}, {1, 1, 0x85, 0},
		{2, 0, 0}, {2, 0, 0, 0}, {2, 1}, {2, 1, 5}, {2, 1, 5, 1}, {2, 2, 5, 0}, {2, 2, 5, 2}, {2, 2, 5, 1, 5, 0}, {2, 2, 5, 0, 5, 1},
		{2, 2, 5, 0x80, 0}, {2, 3, 14, 0xff, 0xff, 0xff, 0xff, 0xff, 0xff, 0xff, 0xff, 0xff, 1},
		{3, 0, 0}, {3, 0, 0, 0}, {3, 1}, {3, 1, 0}, {3, 1, 0, 0, 0}, {3, 1, 0, 1}, {3, 1, 0, 1, 2}, {3, 1, 0, 1, 1, 0},
		{3, 2, 0, 4}, {3, 2, 0, 4, 1, 1}, {3, 2, 0, 5, 1}, {3, 2, 0, 5, 1, 4}, {3, 9, 0, 1, 0xff, 2}, {3, 1, 0, 7, 0x80},
		{3, 1, 0, 64, 1, 1, 1, 1, 1, 1, 1}, {3, 1, 0, 65, 1, 1, 1, 1, 1, 1, 1, 1, 1}, {3, 1, 0, 255}, {3, 1, 0x80, 0, 0},
	} {
		if l, err := column.ReadInts(p); err != api.ErrForm || len(l) != 0 {
			t.Errorf("ReadInts(%x) = %v, %v", p, l, err)
		}
	}
}

// P3.2: a column has MaxRows numbers at most.
func TestReadIntsRows(t *testing.T) {
	rising := make([]int64, api.MaxRows+1)
	for i := range rising {
		rising[i] = int64(i)
	}
	for _, way := range allWays {
		for _, l := range [][]int64{rising, make([]int64, api.MaxRows+1)} {
			if got, err := column.ReadInts(column.As(way, l[1:])); err != api.OK || !slices.Equal(got, l[1:]) {
				t.Errorf("way %d: MaxRows numbers: %v", way, err)
			}
			if got, err := column.ReadInts(column.As(way, l)); err != api.ErrForm || len(got) != 0 {
				t.Errorf("way %d: one number more: %v", way, err)
			}
		}
		for _, n := range []uint64{1 << 31, 1 << 32, 1 << 63, math.MaxUint64} {
			p := append(column.Uint([]byte{way}, n), make([]byte, 20)...)
			if _, err := column.ReadInts(p); err != api.ErrForm {
				t.Errorf("ReadInts(%x) = %v", p, err)
			}
		}
	}
}

// cursor reads bytes as the document tells it, in a way of its own.
type cursor struct {
	p  []byte
	ok bool
}

func (c *cursor) byte() byte {
	if len(c.p) == 0 {
		c.ok = false
		return 0
	}
	b := c.p[0]
	c.p = c.p[1:]
	return b
}

func (c *cursor) uint() uint64 {
	n := new(big.Int)
	for size := uint(0); c.ok; size++ {
		b := c.byte()
		n.Or(n, new(big.Int).Lsh(big.NewInt(int64(b%128)), 7*size))
		if b < 128 {
			c.ok = c.ok && n.BitLen() <= 64 && (b > 0 || size == 0)
			break
		}
	}
	return n.Uint64()
}

func (c *cursor) int() int64 {
	u := c.uint()
	if u%2 == 1 {
		return -1 - int64(u/2)
	}
	return int64(u / 2)
}

func (c *cursor) packed(n int) []int64 {
	if n == 0 {
		return nil
	}
	least, w := c.int(), int(c.byte())
	if !c.ok || w > 64 || len(c.p) != (n*w+7)/8 {
		c.ok = false
		return nil
	}
	turned := bytes.Clone(c.p)
	slices.Reverse(turned)
	all := new(big.Int).SetBytes(turned)
	c.p = nil
	c.ok = all.BitLen() <= n*w
	l := make([]int64, n)
	limit := new(big.Int).Lsh(big.NewInt(1), uint(w))
	for i := range l {
		d := new(big.Int)
		all.DivMod(all, limit, d)
		l[i] = int64(uint64(least) + d.Uint64())
	}
	return l
}

// intsOf are the numbers of a column, if it is one.
func intsOf(p []byte) ([]int64, bool) {
	c := &cursor{p, true}
	way, rows := c.byte(), c.uint()
	if !c.ok || way > column.Packed || rows > api.MaxRows {
		return nil, false
	}
	n, l := int(rows), []int64(nil)
	if way == column.Packed {
		l = c.packed(n)
	}
	for sum := int64(0); c.ok && len(l) < n; {
		next := c.int()
		switch way {
		case column.Plain:
			l = append(l, next)
		case column.Delta:
			sum += next
			l = append(l, sum)
		case column.Runs:
			more := c.uint()
			c.ok = c.ok && more < uint64(n-len(l))
			if c.ok {
				l = append(l, slices.Repeat([]int64{next}, int(more)+1)...)
			}
		}
	}
	return l, c.ok && len(c.p) == 0
}

// checkReadInts holds ReadInts against intsOf.
func checkReadInts(t *testing.T, p []byte) {
	t.Helper()
	want, ok := intsOf(p)
	got, err := column.ReadInts(p)
	if ok && (err != api.OK || !slices.Equal(got, want)) || !ok && (err != api.ErrForm || len(got) != 0) {
		t.Errorf("ReadInts(%x) = %v, %v, not %v, %v", p, got, err, want, ok)
	}
}

// P3.2, P1: all short columns of some bytes.
func TestReadIntsOfShortBytes(t *testing.T) {
	some := []byte{0, 1, 2, 3, 8, 0x40, 0x7f, 0x80, 0x81, 0xff}
	var grow func(p []byte, more int)
	grow = func(p []byte, more int) {
		checkReadInts(t, p)
		if more == 0 {
			return
		}
		for _, b := range some {
			grow(append(p[:len(p):len(p)], b), more-1)
		}
	}
	for way := range 6 {
		grow([]byte{byte(way)}, 4)
	}
}

// P3.2, P1: columns cut short, made longer, with a byte changed.
func TestReadIntsOfSpoiltBytes(t *testing.T) {
	r := rand.New(rand.NewPCG(9, 9))
	for _, l := range lists() {
		if len(l) > 300 {
			l = l[:300]
		}
		for _, way := range allWays {
			p := column.As(way, l)
			checkReadInts(t, p[:r.IntN(len(p))])
			checkReadInts(t, append(bytes.Clone(p), byte(r.IntN(256))))
			checkReadInts(t, append(bytes.Clone(p), 0))
			for range 20 {
				q := bytes.Clone(p)
				q[r.IntN(len(q))] = byte(r.IntN(256))
				checkReadInts(t, q)
			}
		}
	}
}

// P2: neither lists nor bytes that are handed in are changed, nor kept.
func TestIntsMemory(t *testing.T) {
	l := []int64{9, 3, 3, 12}
	for _, way := range allWays {
		p := column.As(way, l)
		want := bytes.Clone(p)
		got, _ := column.ReadInts(p)
		if !slices.Equal(l, []int64{9, 3, 3, 12}) || !bytes.Equal(p, want) {
			t.Errorf("way %d: what was handed in has changed: %v, %x", way, l, p)
		}
		clear(p)
		if !slices.Equal(got, l) || !bytes.Equal(column.As(way, l), want) {
			t.Errorf("way %d: what was answered has changed: %v", way, got)
		}
	}
	if column.Ints(l); !slices.Equal(l, []int64{9, 3, 3, 12}) {
		t.Errorf("Ints has changed its list: %v", l)
	}
}

// P2: asked again, whatever was asked between, each call answers the same.
func TestAnswersAgain(t *testing.T) {
	all := lists()
	var first [][]byte
	for _, l := range all {
		first = append(first, column.Ints(l))
	}
	column.ReadInts([]byte{0, 2, 5})
	for i, l := range slices.Backward(all) {
		if got := column.Ints(l); !bytes.Equal(got, first[i]) {
			t.Errorf("%v: first %x, then %x", l, first[i], got)
		}
		if got, err := column.ReadInts(first[i]); err != api.OK || !slices.Equal(got, l) {
			t.Errorf("%v: read as %v, %v", l, got, err)
		}
	}
}

// P1: As, Ints of lists and ways of which nothing is promised end, too.
func TestIntsBeyondThePromise(t *testing.T) {
	l := make([]int64, 3*api.MaxRows)
	for way := range 256 {
		column.As(byte(way), l)
		column.As(byte(way), nil)
	}
	column.Ints(l)
}

// P3.2, P1: bytes of all kinds.
func FuzzReadInts(f *testing.F) {
	for _, way := range allWays {
		f.Add(column.As(way, []int64{5, 5, -300, 1 << 50}))
	}
	f.Fuzz(func(t *testing.T, p []byte) { checkReadInts(t, p) })
}
