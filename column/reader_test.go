package column_test

import (
	"bytes"
	"errors"
	"math"
	"slices"
	"strings"
	"testing"

	"headrace/column"
)

// written are numbers with their Uint, written out.
var written = []struct {
	n uint64
	p []byte
}{
	{0, []byte{0}},
	{1, []byte{1}},
	{127, []byte{0x7f}},
	{128, []byte{0x80, 1}},
	{255, []byte{0xff, 1}},
	{300, []byte{0xac, 2}},
	{16383, []byte{0xff, 0x7f}},
	{16384, []byte{0x80, 0x80, 1}},
	{1<<63 - 1, []byte{0xff, 0xff, 0xff, 0xff, 0xff, 0xff, 0xff, 0xff, 0x7f}},
	{1 << 63, []byte{0x80, 0x80, 0x80, 0x80, 0x80, 0x80, 0x80, 0x80, 0x80, 1}},
	{math.MaxUint64, []byte{0xff, 0xff, 0xff, 0xff, 0xff, 0xff, 0xff, 0xff, 0xff, 1}},
}

// noUint are bytes that no number begins with, all of them needed to see it.
var noUint = [][]byte{
	nil,
	{0x80},
	{0xff, 0xff},
	{0x80, 0},
	{0xff, 0},
	{0x81, 0x80, 0},
	{0x80, 0x80, 0x80, 0x80, 0x80, 0x80, 0x80, 0x80, 0x80, 0},
	{0x80, 0x80, 0x80, 0x80, 0x80, 0x80, 0x80, 0x80, 0x80, 2},
	{0xff, 0xff, 0xff, 0xff, 0xff, 0xff, 0xff, 0xff, 0xff, 3},
	{0xff, 0xff, 0xff, 0xff, 0xff, 0xff, 0xff, 0xff, 0xff, 0x7f},
	{0x80, 0x80, 0x80, 0x80, 0x80, 0x80, 0x80, 0x80, 0x80, 0x81, 0},
	{0x80, 0x80, 0x80, 0x80, 0x80, 0x80, 0x80, 0x80, 0x80, 0x80, 1},
	{0x81, 0x80, 0x80, 0x80, 0x80, 0x80, 0x80, 0x80, 0x80, 0x80, 0x80, 0x80, 0x80, 1},
	bytes.Repeat([]byte{0x80}, 100),
	append(bytes.Repeat([]byte{0xff}, 100), 1),
}

// reads tells what Try answers, and whether f was gone through up to its end.
func reads(p []byte, f func(r *column.Reader)) (whole, toTheEnd bool) {
	whole = column.Try(p, func(r *column.Reader) {
		f(r)
		toTheEnd = true
	})
	return whole, toTheEnd
}

func checkReads(t *testing.T, p []byte, f func(r *column.Reader)) {
	t.Helper()
	if whole, end := reads(p, f); !whole || !end {
		t.Errorf("%x: Try = %v, to the end: %v", p, whole, end)
	}
}

func checkGivesUp(t *testing.T, p []byte, f func(r *column.Reader)) {
	t.Helper()
	if whole, end := reads(p, f); whole || end {
		t.Errorf("%x: Try = %v, to the end: %v", p, whole, end)
	}
}

// P3.1: Uint is seven bits a byte, the lowest first, behind what there is.
func TestUint(t *testing.T) {
	for _, c := range written {
		if got := column.Uint(nil, c.n); !bytes.Equal(got, c.p) {
			t.Errorf("Uint(%d) = %x, not %x", c.n, got, c.p)
		}
		if got := column.Uint([]byte("ab"), c.n); !bytes.Equal(got, append([]byte("ab"), c.p...)) {
			t.Errorf("Uint(ab, %d) = %x", c.n, got)
		}
		checkReads(t, c.p, func(r *column.Reader) {
			if got := r.Uint(math.MaxUint64); got != c.n {
				t.Errorf("%x: Uint = %d, not %d", c.p, got, c.n)
			}
		})
	}
}

// P3.1: Int is Uint of 2n, or of -2n - 1.
func TestInt(t *testing.T) {
	for _, c := range []struct {
		n int64
		u uint64
	}{
		{0, 0}, {-1, 1}, {1, 2}, {-2, 3}, {7, 14}, {63, 126}, {-64, 127}, {64, 128}, {-65, 129},
		{math.MaxInt64, math.MaxUint64 - 1}, {math.MinInt64, math.MaxUint64}, {math.MinInt64 + 1, math.MaxUint64 - 2},
	} {
		p := column.Uint([]byte("x"), c.u)
		if got := column.Int([]byte("x"), c.n); !bytes.Equal(got, p) {
			t.Errorf("Int(%d) = %x, not %x", c.n, got, p)
		}
		checkReads(t, p[1:], func(r *column.Reader) {
			if got := r.Int(); got != c.n {
				t.Errorf("%x: Int = %d, not %d", p[1:], got, c.n)
			}
		})
	}
}

// P3.1: Text is how many bytes, and they.
func TestText(t *testing.T) {
	for _, s := range []string{"", "a", "two words", "\x00\xff\x80", "Grüße", strings.Repeat("z", 127), strings.Repeat("z", 128)} {
		p := append(column.Uint([]byte("p"), uint64(len(s))), s...)
		if got := column.Text([]byte("p"), s); !bytes.Equal(got, p) {
			t.Errorf("Text(%q) = %x, not %x", s, got, p)
		}
		for _, most := range []int{len(s), len(s) + 1, math.MaxInt} {
			checkReads(t, p[1:], func(r *column.Reader) {
				if got := r.Text(most); got != s {
					t.Errorf("Text(%d) = %q, not %q", most, got, s)
				}
			})
		}
	}
}

// P3.1: the reader's calls answer one behind another.
func TestReadOneBehindAnother(t *testing.T) {
	p := column.Uint(nil, 300)
	p = column.Int(p, -300)
	p = column.Text(p, "abc")
	p = append(p, 0x80)
	p = column.Text(p, "")
	p = column.Uint(p, 0)
	checkReads(t, p, func(r *column.Reader) {
		u, i, s := r.Uint(300), r.Int(), r.Text(3)
		b, e, z := r.Byte(), r.Text(0), r.Uint(0)
		if u != 300 || i != -300 || s != "abc" || b != 0x80 || e != "" || z != 0 {
			t.Errorf("%d, %d, %q, %x, %q, %d", u, i, s, b, e, z)
		}
		r.Check(true)
	})
}

// P3.1: every byte there is, and none behind the last.
func TestByte(t *testing.T) {
	for b := range 256 {
		checkReads(t, []byte{byte(b)}, func(r *column.Reader) {
			if got := r.Byte(); got != byte(b) {
				t.Errorf("Byte = %x, not %x", got, b)
			}
		})
	}
	checkGivesUp(t, nil, func(r *column.Reader) { r.Byte() })
	checkGivesUp(t, []byte{7}, func(r *column.Reader) {
		r.Byte()
		r.Byte()
	})
}

// P3.1: what is no number is given up: too few bytes, too many bits, a nought as the last byte of several.
func TestGivesUpAtNoNumber(t *testing.T) {
	for _, p := range noUint {
		for _, behind := range [][]byte{nil, {5}, {1, 0, 0}} {
			// What is short of bytes is another number with more behind it.
			if len(behind) > 0 && (len(p) == 0 || p[len(p)-1] >= 0x80) {
				continue
			}
			q := slices.Concat(p, behind)
			checkGivesUp(t, q, func(r *column.Reader) { r.Uint(math.MaxUint64) })
			checkGivesUp(t, q, func(r *column.Reader) { r.Int() })
			checkGivesUp(t, q, func(r *column.Reader) { r.Text(math.MaxInt) })
		}
	}
}

// P3.1: a number may be most, and no more.
func TestGivesUpAboveMost(t *testing.T) {
	for _, c := range written {
		p := column.Uint(nil, c.n)
		checkReads(t, p, func(r *column.Reader) { r.Uint(c.n) })
		if c.n > 0 {
			checkGivesUp(t, p, func(r *column.Reader) { r.Uint(c.n - 1) })
			checkGivesUp(t, p, func(r *column.Reader) { r.Uint(0) })
		}
		if c.n < math.MaxUint64 {
			checkReads(t, p, func(r *column.Reader) { r.Uint(c.n + 1) })
		}
	}
}

// P3.1: a text may have most bytes, and no more, and has all that it says.
func TestGivesUpAtNoText(t *testing.T) {
	p := column.Text(nil, "abcd")
	checkReads(t, p, func(r *column.Reader) { r.Text(4) })
	checkGivesUp(t, p, func(r *column.Reader) { r.Text(3) })
	checkGivesUp(t, p, func(r *column.Reader) { r.Text(0) })
	for n := range p {
		checkGivesUp(t, p[:n], func(r *column.Reader) { r.Text(4) })
	}
	for _, n := range []uint64{1, math.MaxInt, math.MaxInt + 1, math.MaxUint64} {
		checkGivesUp(t, column.Uint(nil, n), func(r *column.Reader) { r.Text(math.MaxInt) })
	}
}

// P3.1: Check gives up, if it isn't ok.
func TestCheck(t *testing.T) {
	checkReads(t, nil, func(r *column.Reader) { r.Check(true) })
	checkGivesUp(t, nil, func(r *column.Reader) { r.Check(false) })
	checkGivesUp(t, []byte{1}, func(r *column.Reader) {
		r.Byte()
		r.Check(false)
	})
}

// P3.1: does f read all? It doesn't, if bytes are left.
func TestTryReadsAll(t *testing.T) {
	nothing := func(r *column.Reader) {}
	one := func(r *column.Reader) { r.Byte() }
	for _, c := range []struct {
		p    []byte
		f    func(r *column.Reader)
		want bool
	}{
		{nil, nothing, true},
		{[]byte{}, nothing, true},
		{[]byte{0}, nothing, false},
		{[]byte{0}, one, true},
		{[]byte{0, 0}, one, false},
		{nil, one, false},
	} {
		if got := column.Try(c.p, c.f); got != c.want {
			t.Errorf("Try(%x) = %v", c.p, got)
		}
	}
}

// P3.1: what a reader gave up is lost, even if f catches it and no bytes are left.
func TestTryTellsWhatFCaught(t *testing.T) {
	if column.Try(nil, func(r *column.Reader) {
		defer func() { recover() }()
		r.Byte()
	}) {
		t.Error("Try = true")
	}
}

// thrownBy is what comes out of Try when f throws.
func thrownBy(f func(r *column.Reader)) (thrown any) {
	defer func() { thrown = recover() }()
	column.Try([]byte{1}, f)
	return nil
}

// P3.1: another panic of f goes on, as it was.
func TestAnotherPanicGoesOn(t *testing.T) {
	mine := errors.New("mine")
	for _, thrown := range []any{"a text", 5, mine, struct{ n int }{3}} {
		if got := thrownBy(func(r *column.Reader) { panic(thrown) }); got != thrown {
			t.Errorf("%v came out as %v", thrown, got)
		}
		if got := thrownBy(func(r *column.Reader) {
			column.Try(nil, func(inner *column.Reader) { panic(thrown) })
		}); got != thrown {
			t.Errorf("from within two: %v came out as %v", thrown, got)
		}
	}
	if got := thrownBy(func(r *column.Reader) { panic(r) }); got == nil {
		t.Error("a reader that f throws did not come out")
	}
	var none []int
	if got, ok := thrownBy(func(r *column.Reader) { _ = none[len(none)] }).(error); !ok || !strings.Contains(got.Error(), "out of range") {
		t.Errorf("what the language throws came out as %v", got)
	}
}

// P3.1: one Try within another: each is told of its own reader.
func TestTryWithinTry(t *testing.T) {
	innerIs, behind := true, false
	outer := column.Try([]byte{1}, func(r *column.Reader) {
		innerIs = column.Try([]byte{2}, func(inner *column.Reader) { inner.Uint(1) })
		behind = true
		r.Byte()
	})
	if innerIs || !behind || !outer {
		t.Errorf("the inner one gives up: %v, %v, %v", innerIs, behind, outer)
	}
	behind = false
	outer = column.Try([]byte{1}, func(r *column.Reader) {
		column.Try([]byte{2}, func(inner *column.Reader) {
			inner.Byte()
			r.Uint(0)
		})
		behind = true
	})
	if behind || outer {
		t.Errorf("the outer one gives up within the inner one: %v, %v", behind, outer)
	}
}

// P1: nil readers and functions, a most below 0.
func TestNilReader(t *testing.T) {
	var r *column.Reader
	r.Check(false)
	r.Check(true)
	if r.Uint(math.MaxUint64) != 0 || r.Int() != 0 || r.Text(5) != "" || r.Byte() != 0 {
		t.Error("a nil reader answers more than nought")
	}
	if column.Try(nil, nil) || column.Try([]byte{1}, nil) {
		t.Error("what is no function reads all")
	}
	checkGivesUp(t, []byte{0}, func(r *column.Reader) { r.Text(-1) })
}

// P2: Try neither changes nor keeps its bytes, and answers new ones.
func TestReadersMemory(t *testing.T) {
	p := column.Text(nil, "abc")
	want := bytes.Clone(p)
	var s string
	column.Try(p, func(r *column.Reader) { s = r.Text(3) })
	if !bytes.Equal(p, want) {
		t.Error("Try has changed its bytes")
	}
	clear(p)
	if s != "abc" {
		t.Errorf("a text hangs on the bytes it was read from: %q", s)
	}
}

// P2: what is laid stands behind bytes that stay as they were.
func TestLaidBehind(t *testing.T) {
	p := []byte{1, 2, 3}
	column.Uint(p[:2:3], 300)
	column.Int(p[:2:2], 300)
	column.Text(p[:2:2], "abc")
	if p[0] != 1 || p[1] != 2 {
		t.Errorf("%x", p)
	}
}
