package ledger_test

import (
	"bytes"
	"encoding/binary"
	"hash/crc32"
	"math"
	"math/rand/v2"
	"slices"
	"testing"

	"headrace/api"
	"headrace/ledger"
)

// eater takes what bytes begin with, apart from the program.
type eater struct {
	p  []byte
	ok bool
}

// number is the next one, at most that.
func (x *eater) number(most uint64) uint64 {
	n, size := binary.Uvarint(x.p)
	if size <= 0 || size != len(binary.AppendUvarint(nil, n)) || n > most {
		*x = eater{}
		return 0
	}
	x.p = x.p[size:]
	return n
}

// bytes are the next n.
func (x *eater) bytes(n uint64) string {
	if n > uint64(len(x.p)) {
		*x = eater{}
		return ""
	}
	p := x.p[:n]
	x.p = x.p[n:]
	return string(p)
}

// real is the next number with a point, of its bits.
func (x *eater) real() float64 {
	n := math.Float64frombits(x.number(math.MaxUint64))
	if n != n && math.Float64bits(n) != theOne {
		*x = eater{}
	}
	return n
}

func (x *eater) int() int64 {
	n := x.number(math.MaxUint64)
	if n%2 == 1 {
		return -int64(n/2) - 1
	}
	return int64(n / 2)
}

func (x *eater) change() api.Change {
	var c api.Change
	first := x.bytes(1)
	if first != "\x00" && first != "\x01" {
		*x = eater{}
	}
	c.Put = first == "\x01"
	c.Rev = x.number(1 << 40)
	c.P.Key = x.bytes(x.number(32))
	c.P.W = win(x.int(), 0)
	c.P.W.End = x.int()
	c.P.A.Count = x.number(1 << 40)
	c.P.A.Sum = x.real()
	c.P.A.Over = x.number(1) == 1
	c.P.A.Min = x.real()
	c.P.A.Max = x.real()
	return c
}

// readOf is what Read is to answer, read apart from the program.
func readOf(p []byte) ([]api.Change, api.Errno) {
	if len(p) < 9 {
		return nil, api.ErrForm
	}
	size := uint64(binary.LittleEndian.Uint32(p))
	if size > 1<<20 || size > uint64(len(p)-9) {
		return nil, api.ErrForm
	}
	if crc32.ChecksumIEEE(p[:5+size]) != binary.LittleEndian.Uint32(p[5+size:]) {
		return nil, api.ErrSum
	}
	x := &eater{p[5 : 5+size], true}
	n := x.number(math.MaxUint64)
	var l []api.Change
	for i := uint64(0); i < n && x.ok; i++ {
		l = append(l, x.change())
	}
	if p[4] != 'l' || uint64(len(p)) != size+9 || !x.ok || len(x.p) > 0 {
		return nil, api.ErrForm
	}
	return l, api.OK
}

// checkAnswer holds Read of any bytes against readOf, twice.
func checkAnswer(t *testing.T, p []byte) {
	t.Helper()
	want, err := readOf(p)
	before := bytes.Clone(p)
	for range 2 {
		l, e := ledger.Read(p)
		if e != err || !same(l, want) {
			t.Fatalf("Read of %x = %+v, error %d; not %+v, error %d", p, l, e, want, err)
		}
		if e == api.OK && !bytes.Equal(ledger.Lay(l), p) {
			t.Fatalf("%x is laid as %x", p, ledger.Lay(l))
		}
	}
	if !bytes.Equal(p, before) {
		t.Fatalf("%x was changed: %x", before, p)
	}
}

// P16.2, P1: pages cut short, made longer, with a byte changed, with the sum that they then have, and with the one that they had.
func TestReadOfSpoiltBytes(t *testing.T) {
	r := rand.New(rand.NewPCG(16, 20))
	read := 0
	for n := range 12 {
		p := bytesOf(someBook(r, n))
		body := p[5 : len(p)-4]
		for i := range body {
			turned := bytes.Clone(body)
			turned[i] ^= 1 << r.IntN(8)
			other := bytes.Clone(body)
			other[i] = byte(r.IntN(256))
			for _, q := range [][]byte{
				body[:i], turned, other, slices.Insert(bytes.Clone(body), i, byte(r.IntN(3))), slices.Insert(turned, i, byte(r.IntN(256))), slices.Delete(bytes.Clone(body), i, i+1),
			} {
				checkAnswer(t, pageOf('l', q))
				checkAnswer(t, slices.Concat(p[:5], q, p[len(p)-4:]))
				if _, e := ledger.Read(pageOf('l', q)); e == api.OK {
					read++
				}
			}
		}
		checkAnswer(t, p)
	}
	if read < 500 {
		t.Errorf("%d spoilt ones are read: too few", read)
	}
}

// P1: any bytes, alone and within a page.
func TestAnyBytes(t *testing.T) {
	r := rand.New(rand.NewPCG(16, 21))
	for range 20000 {
		p := make([]byte, r.IntN(40))
		for i := range p {
			p[i] = byte(r.IntN(1 + r.IntN(256)))
		}
		checkAnswer(t, p)
		checkAnswer(t, pageOf('l', p))
	}
}

// P1: bytes of all kinds are read, or refused, and what is read is added, or refused.
func FuzzRead(f *testing.F) {
	for _, l := range someLists() {
		p := bytesOf(l)
		f.Add(p[5 : len(p)-4])
	}
	f.Fuzz(func(t *testing.T, body []byte) {
		checkAnswer(t, body)
		p := pageOf('l', body)
		checkAnswer(t, p)
		if l, e := ledger.Read(p); e == api.OK && len(l) < 200 {
			var g ledger.Ledger
			checkAdd(t, "what was read", &g, nil, l...)
		}
	})
}
