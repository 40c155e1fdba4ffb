package page_test

import (
	"bytes"
	"encoding/binary"
	"hash/crc32"
	"math"
	"math/bits"
	"math/rand/v2"
	"slices"
	"testing"

	"headrace/api"
	"headrace/page"
)

const (
	headBytes = 5 // how many bytes the body has, and the kind
	restBytes = 9 // all that isn't the body
)

// pageOf is a page, laid apart from the program.
func pageOf(kind byte, body []byte) []byte {
	p := binary.LittleEndian.AppendUint32(nil, uint32(len(body)))
	p = append(p, kind)
	p = append(p, body...)
	return binary.LittleEndian.AppendUint32(p, crc32.ChecksumIEEE(p))
}

// saying is a page that says another number of bytes, with a sum that is right
// for all that stands ahead of it.
func saying(size uint32, body []byte) []byte {
	p := binary.LittleEndian.AppendUint32(nil, size)
	p = append(p, 'k')
	p = append(p, body...)
	return binary.LittleEndian.AppendUint32(p, crc32.ChecksumIEEE(p))
}

// someBytes are n bytes, the same ones each time.
func someBytes(seed uint64, n int) []byte {
	r := rand.New(rand.NewPCG(seed, 1))
	p := make([]byte, n)
	for i := range p {
		p[i] = byte(r.Uint32())
	}
	return p
}

// remainder is the sum by its words: bit by bit, the lowest of a byte first.
func remainder(p []byte) uint32 {
	rest := uint32(0xffffffff)
	for _, b := range p {
		for i := range 8 {
			odd := (rest ^ uint32(b>>i)) & 1
			rest >>= 1
			if odd == 1 {
				rest ^= 0xedb88320
			}
		}
	}
	return rest ^ 0xffffffff
}

func checkRead(t *testing.T, p []byte, at int, kind byte, body []byte, behind int) {
	t.Helper()
	k, b, n, e := page.Read(p, at)
	if k != kind || !bytes.Equal(b, body) || n != behind || e != api.OK {
		t.Errorf("Read of %d bytes at %d = %q, %d bytes, %d, %d; not %q, %d bytes, %d", len(p), at, k, len(b), n, e, kind, len(body), behind)
	}
}

func checkReadError(t *testing.T, p []byte, at int, want api.Errno) {
	t.Helper()
	k, b, n, e := page.Read(p, at)
	if k != 0 || len(b) != 0 || n != 0 || e != want {
		t.Errorf("Read of %d bytes at %d = %q, %d bytes, %d, %d; not error %d beside noughts", len(p), at, k, len(b), n, e, want)
	}
}

func checkOne(t *testing.T, p []byte, kind byte, body []byte, want api.Errno) {
	t.Helper()
	b, e := page.One(p, kind)
	if !bytes.Equal(b, body) || e != want {
		t.Errorf("One of %d bytes, %q = %d bytes, %d; not %d bytes, %d", len(p), kind, len(b), e, len(body), want)
	}
}

// P4.1: the sum is CRC-32.
func TestSumWrittenOut(t *testing.T) {
	for _, c := range []struct {
		p    string
		want uint32
	}{
		{"", 0}, {"123456789", 0xcbf43926}, {"a", 0xe8b7be43}, {"\x00", 0xd202ef8d}, {"\xff", 0xff000000},
		{"\x00\x00\x00\x00", 0x2144df1c}, {"\xff\xff\xff\xff", 0xffffffff},
	} {
		if got := page.Sum([]byte(c.p)); got != c.want {
			t.Errorf("Sum(%q) = %x, not %x", c.p, got, c.want)
		}
	}
	if got := page.Sum(nil); got != 0 {
		t.Errorf("Sum(nil) = %x", got)
	}
}

// P4.1: of all bytes, and of many together.
func TestSum(t *testing.T) {
	for a := range 256 {
		for b := range 256 {
			p := []byte{byte(a), byte(b)}
			if got, want := page.Sum(p), remainder(p); got != want {
				t.Fatalf("Sum(%x) = %x, not %x", p, got, want)
			}
		}
	}
	for n := range 300 {
		p := someBytes(uint64(n), n)
		if got := page.Sum(p); got != remainder(p) || got != crc32.ChecksumIEEE(p) {
			t.Errorf("Sum(%x) = %x, not %x", p, got, remainder(p))
		}
	}
	p := someBytes(1, api.MaxPage)
	if got, want := page.Sum(p), crc32.ChecksumIEEE(p); got != want {
		t.Errorf("Sum of %d bytes = %x, not %x", len(p), got, want)
	}
}

// P4.1: how many bytes, the kind, the body, the sum.
func TestLayWrittenOut(t *testing.T) {
	for _, c := range []struct {
		p    string
		kind byte
		body string
		want string
	}{
		{"", 0, "", "\x00\x00\x00\x00\x00\x1d\xf7\x22\xc6"},
		{"", 'k', "", "\x00\x00\x00\x00k\xcd\x4f\x42\x1c"},
		{"", 'k', "ab", "\x02\x00\x00\x00kab\x04\xb0\x2b\x91"},
		{"xyz", 'k', "ab", "xyz\x02\x00\x00\x00kab\x04\xb0\x2b\x91"},
	} {
		got := page.Lay([]byte(c.p), c.kind, []byte(c.body))
		if string(got) != c.want {
			t.Errorf("Lay(%q, %q, %q) = %x, not %x", c.p, c.kind, c.body, got, c.want)
		}
	}
	if got := page.Lay(nil, 'k', nil); string(got) != "\x00\x00\x00\x00k\xcd\x4f\x42\x1c" {
		t.Errorf("Lay(nil, k, nil) = %x", got)
	}
}

// sizes are how many bytes bodies have, those among them that the limit names.
var sizes = []int{0, 1, 2, 3, 4, 5, 9, 127, 128, 255, 256, 257, 65535, 65536, api.MaxPage - 1, api.MaxPage}

// P4.1, P4.2: a page of any body is laid so, and read.
func TestReadOfLay(t *testing.T) {
	for i, n := range sizes {
		kind, body := byte(i*17), someBytes(uint64(i), n)
		p := page.Lay(nil, kind, body)
		if !bytes.Equal(p, pageOf(kind, body)) {
			t.Errorf("Lay of %d bytes is no such page", n)
		}
		checkRead(t, p, 0, kind, body, n+restBytes)
		checkOne(t, p, kind, body, api.OK)
	}
}

// P4.1, P4.2: of each kind.
func TestKinds(t *testing.T) {
	for k := range 256 {
		p := page.Lay(nil, byte(k), []byte("body"))
		checkRead(t, p, 0, byte(k), []byte("body"), len(p))
		checkOne(t, p, byte(k), []byte("body"), api.OK)
		for other := range 256 {
			if other != k {
				checkOne(t, p, byte(other), nil, api.ErrForm)
			}
		}
	}
}

// P4.2: pages stand behind other bytes, and one behind the other.
func TestReadOfSeveral(t *testing.T) {
	p := []byte("ahead")
	at := []int{len(p)}
	for i, n := range sizes[:12] {
		p = page.Lay(p, byte(i), someBytes(uint64(i), n))
		at = append(at, len(p))
	}
	p = append(p, "behind"...)
	for i, n := range sizes[:12] {
		checkRead(t, p, at[i], byte(i), someBytes(uint64(i), n), at[i+1])
	}
	if string(p[:5]) != "ahead" {
		t.Errorf("bytes ahead are %q", p[:5])
	}
}

// P4.2: a place is 0 to len(p); the error of a place goes first.
func TestReadAtNoPlace(t *testing.T) {
	whole := pageOf('k', []byte("body"))
	spoilt := slices.Clone(whole)
	spoilt[6] ^= 1
	for _, p := range [][]byte{nil, {}, {0}, whole, spoilt} {
		for _, at := range []int{-1, -len(p) - 1, math.MinInt, len(p) + 1, len(p) + 4, math.MaxInt - 8, math.MaxInt} {
			checkReadError(t, p, at, api.ErrArg)
		}
		checkReadError(t, p, len(p), api.ErrForm)
	}
}

// P4.2: there are fewer bytes than the page says.
func TestReadOfTooFew(t *testing.T) {
	p := pageOf('k', []byte("some bytes"))
	for n := range len(p) {
		checkReadError(t, p[:n], 0, api.ErrForm)
		checkOne(t, p[:n], 'k', nil, api.ErrForm)
		checkReadError(t, append([]byte("ab"), p[:n]...), 2, api.ErrForm)
	}
	// The room behind what is handed in is no part of it.
	checkReadError(t, p[:len(p)-1:len(p)], 0, api.ErrForm)
}

// P4.2: a page says more or fewer bytes than it has; too few bytes go ahead of a sum that is wrong.
func TestReadOfAnotherLength(t *testing.T) {
	body := someBytes(3, 40)
	for size := range uint32(40) {
		checkReadError(t, saying(size, body), 0, api.ErrSum)
	}
	for _, size := range []uint32{41, 42, 255, 256, api.MaxPage, api.MaxPage + 1, 1 << 24, 1<<31 - 1, 1 << 31, 1<<31 + 40, math.MaxUint32 - 8, math.MaxUint32} {
		p := saying(size, body)
		checkReadError(t, p, 0, api.ErrForm)
		checkOne(t, p, 'k', nil, api.ErrForm)
		p[len(p)-1] ^= 1
		checkReadError(t, p, 0, api.ErrForm)
	}
	// With more bytes behind it there are as many as it says.
	checkReadError(t, append(saying(41, body), 0), 0, api.ErrSum)
	checkReadError(t, append(saying(50, body), make([]byte, 10)...), 0, api.ErrSum)
}

// P4.2: MaxPage bytes of a body are read, and one more aren't, though it is laid.
func TestReadOfTheLongest(t *testing.T) {
	body := someBytes(4, api.MaxPage+1)
	for _, ahead := range []int{0, 3} {
		p := page.Lay(make([]byte, ahead), 'k', body[1:])
		checkRead(t, p, ahead, 'k', body[1:], len(p))
		p = page.Lay(make([]byte, ahead), 'k', body)
		if !bytes.Equal(p[ahead:], pageOf('k', body)) {
			t.Error("Lay of MaxPage + 1 bytes is no such page")
		}
		checkReadError(t, p, ahead, api.ErrForm)
		checkReadError(t, append(p, make([]byte, 100)...), ahead, api.ErrForm)
	}
	checkOne(t, pageOf('k', body), 'k', nil, api.ErrForm)
}

// P4.2: One is of one page, and nothing else; Read's error goes first.
func TestOneOfOther(t *testing.T) {
	p := pageOf('k', []byte("body"))
	checkOne(t, p, 'k', []byte("body"), api.OK)
	checkOne(t, nil, 'k', nil, api.ErrForm)
	checkOne(t, append(slices.Clone(p), 0), 'k', nil, api.ErrForm)
	checkOne(t, append(slices.Clone(p), p...), 'k', nil, api.ErrForm)
	checkOne(t, append([]byte{0}, p...), 'k', nil, api.ErrForm)
	checkOne(t, p, 'l', nil, api.ErrForm)
	spoilt := slices.Clone(p)
	spoilt[5] ^= 1
	checkOne(t, spoilt, 'k', nil, api.ErrSum)
	checkOne(t, spoilt, 'l', nil, api.ErrSum)
	checkOne(t, append(spoilt, 0), 'k', nil, api.ErrSum)
}

// turn turns the bits of p that the 32 bits of pattern say, from a place of a bit on.
func turn(p []byte, from int, pattern uint32) {
	for i := range 32 {
		if pattern>>i&1 == 1 {
			p[(from+i)/8] ^= 1 << ((from + i) % 8)
		}
	}
}

// checkTurned turns bits of a page, and looks whether that is told.
func checkTurned(t *testing.T, p []byte, from int, pattern uint32) {
	t.Helper()
	turn(p, from, pattern)
	if _, b, n, e := page.Read(p, 0); e != api.ErrSum || len(b) != 0 || n != 0 {
		t.Errorf("%d bytes, bits %032b turned from %d on: Read = %d", len(p), pattern, from, e)
	}
	if b, e := page.One(p, 'k'); e != api.ErrSum || len(b) != 0 {
		t.Errorf("%d bytes, bits %032b turned from %d on: One = %d", len(p), pattern, from, e)
	}
	turn(p, from, pattern)
}

// P4.3, P7: each bit, and each two bits within 32, of all but the length.
func TestTurnedBits(t *testing.T) {
	for _, n := range []int{0, 1, 3, 30} {
		p := pageOf('k', someBytes(uint64(n), n))
		for from := 32; from < 8*len(p); from++ {
			last := min(32, 8*len(p)-from)
			for i := range last {
				checkTurned(t, p, from, 1|1<<i)
			}
		}
		checkOne(t, p, 'k', someBytes(uint64(n), n), api.OK)
	}
}

// P4.3, P7: any bits within 32, from any bit on.
func TestTurnedWithin32(t *testing.T) {
	r := rand.New(rand.NewPCG(5, 6))
	for _, n := range []int{0, 1, 2, 20} {
		p := pageOf('k', someBytes(uint64(n), n))
		for from := 32; from < 8*len(p); from++ {
			all := uint32(math.MaxUint32)
			if left := 8*len(p) - from; left < 32 {
				all >>= 32 - left
			}
			checkTurned(t, p, from, all)
			checkTurned(t, p, from, 1|1<<(bits.Len32(all)-1))
			for range 200 {
				if pattern := r.Uint32() & all; pattern != 0 {
					checkTurned(t, p, from, pattern)
				}
			}
		}
	}
}

// P4.3, P7: of the longest page, at its beginning, its end, and between.
func TestTurnedInTheLongest(t *testing.T) {
	p := pageOf('k', someBytes(8, api.MaxPage))
	last := 8*len(p) - 32
	for _, from := range []int{32, 33, 40, 8 * api.MaxPage / 2, last - 32, last - 17, last} {
		checkTurned(t, p, from, 1)
		checkTurned(t, p, from, 0x80000001)
		checkTurned(t, p, from, math.MaxUint32)
	}
	checkOne(t, p, 'k', someBytes(8, api.MaxPage), api.OK)
}

// What is handed in to Lay isn't changed and not kept; the room behind may be used.
func TestLayMemory(t *testing.T) {
	room := slices.Repeat([]byte{0xee}, 64)
	body := []byte("the body")
	for _, p := range [][]byte{room[:0:0], room[:3:3], room[:3:10], room[:3:20], room[:3]} {
		before := slices.Clone(p)
		got := page.Lay(p, 'k', body)
		want := append(slices.Clone(before), pageOf('k', []byte("the body"))...)
		if !bytes.Equal(got, want) {
			t.Errorf("Lay behind %d bytes with room for %d = %x", len(p), cap(p), got)
		}
		if !bytes.Equal(p, before) || string(body) != "the body" {
			t.Errorf("Lay changed what was handed in: %x, %q", p, body)
		}
		clear(body)
		if !bytes.Equal(got, want) {
			t.Error("the body is kept")
		}
		copy(body, "the body")
	}
}

// A body may be the bytes ahead, or stand in the room behind them.
func TestLayOfABodyInTheRoom(t *testing.T) {
	for from := range 20 {
		room := append(make([]byte, 0, 100), someBytes(9, 40)...)
		p, body := room[:4], room[from:from+16]
		want := append(slices.Clone(p), pageOf('k', body)...)
		if got := page.Lay(p, 'k', body); !bytes.Equal(got, want) {
			t.Errorf("body from %d on: %x, not %x", from, got, want)
		}
	}
}

// What Read and One answer is new memory, and what is handed in stays as it is.
func TestReadMemory(t *testing.T) {
	p := pageOf('k', []byte("body"))
	before := slices.Clone(p)
	_, read, _, _ := page.Read(p, 0)
	one, _ := page.One(p, 'k')
	copy(read, "gone")
	if !bytes.Equal(p, before) || string(one) != "body" {
		t.Errorf("the page is %x, the other body %q", p, one)
	}
	clear(p)
	if string(read) != "gone" || string(one) != "body" {
		t.Errorf("bodies are %q, %q", read, one)
	}
}

// readOf is what Read is to answer, told apart from the program.
func readOf(p []byte, at int) (byte, []byte, int, api.Errno) {
	if at < 0 || at > len(p) {
		return 0, nil, 0, api.ErrArg
	}
	rest := p[at:]
	if len(rest) < 4 {
		return 0, nil, 0, api.ErrForm
	}
	size := int64(binary.LittleEndian.Uint32(rest))
	if size > api.MaxPage || int64(len(rest)) < size+restBytes {
		return 0, nil, 0, api.ErrForm
	}
	if !bytes.Equal(rest[:size+restBytes], pageOf(rest[4], rest[headBytes:headBytes+size])) {
		return 0, nil, 0, api.ErrSum
	}
	return rest[4], rest[headBytes : headBytes+size], at + restBytes + int(size), api.OK
}

func checkAnswers(t *testing.T, p []byte, at int, kind byte) {
	t.Helper()
	before := slices.Clone(p)
	k, body, behind, e := readOf(p, at)
	for range 2 { // P2: the same again
		k2, body2, behind2, e2 := page.Read(p, at)
		if k2 != k || !bytes.Equal(body2, body) || behind2 != behind || e2 != e {
			t.Fatalf("Read(%x, %d) = %d, %x, %d, %d; not %d, %x, %d, %d", p, at, k2, body2, behind2, e2, k, body, behind, e)
		}
	}
	k, body, behind, e = readOf(p, 0)
	if e == api.OK && (k != kind || behind != len(p)) {
		body, e = nil, api.ErrForm
	}
	for range 2 {
		if body2, e2 := page.One(p, kind); !bytes.Equal(body2, body) || e2 != e {
			t.Fatalf("One(%x, %d) = %x, %d; not %x, %d", p, kind, body2, e2, body, e)
		}
	}
	if !bytes.Equal(p, before) {
		t.Fatalf("%x was changed: %x", before, p)
	}
}

// P1, P2: bytes that are no page, or nearly one.
func TestReadOfAnyBytes(t *testing.T) {
	r := rand.New(rand.NewPCG(7, 7))
	for range 20000 {
		p := someBytes(r.Uint64(), r.IntN(30))
		if len(p) > 3 && r.IntN(4) > 0 {
			binary.LittleEndian.PutUint32(p, uint32(r.IntN(24)))
		}
		if r.IntN(2) == 0 {
			p = append(pageOf(byte(r.IntN(3)), p), someBytes(r.Uint64(), r.IntN(3))...)
		}
		if r.IntN(3) == 0 && len(p) > 0 {
			p[r.IntN(len(p))] ^= 1 << r.IntN(8)
		}
		checkAnswers(t, p, r.IntN(len(p)+3)-1, byte(r.IntN(3)))
		checkAnswers(t, p, 0, byte(r.IntN(3)))
	}
}

func FuzzRead(f *testing.F) {
	f.Add([]byte{}, 0, byte(0))
	f.Add(pageOf('k', []byte("body")), 0, byte('k'))
	f.Add(saying(math.MaxUint32, []byte("body")), -1, byte('k'))
	f.Add(append([]byte("x"), pageOf('k', nil)...), 1, byte('l'))
	f.Fuzz(checkAnswers)
}
