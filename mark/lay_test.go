package mark_test

import (
	"bytes"
	"encoding/binary"
	"math"
	"math/rand/v2"
	"slices"
	"testing"

	"headrace/api"
	"headrace/column"
	"headrace/mark"
)

// someModels are what was seen of 1 to MaxParts partitions, of none of them, some, all.
func someModels() []model {
	var l []model
	r := rand.New(rand.NewPCG(14, 2))
	for parts := 1; parts <= api.MaxParts; parts++ {
		l = append(l, model{parts: parts})
		for _, at := range times {
			l = append(l, model{parts, []seen{{parts - 1, at}}})
		}
		for n := range 30 {
			l = append(l, someModel(r, parts, n))
		}
	}
	return l
}

// P14.2: bytes, written out.
func TestLayWrittenOut(t *testing.T) {
	for _, x := range []struct {
		m    mark.Marks
		want string
	}{
		{newMarks(t, 1), "\x01\x00"},
		{newMarks(t, 2), "\x02\x00\x00"},
		{newMarks(t, 1).See(0, 0), "\x01\x01\x00"},
		{newMarks(t, 1).See(0, -1), "\x01\x01\x01"},
		{newMarks(t, 1).See(0, 1), "\x01\x01\x02"},
		{newMarks(t, 2).See(0, 5).See(1, 3), "\x02\x01\x0a\x01\x06"},
		{newMarks(t, 3).See(1, 64), "\x03\x00\x01\x80\x01\x00"},
		{newMarks(t, 8).See(7, -65), "\x08\x00\x00\x00\x00\x00\x00\x00\x01\x81\x01"},
		{newMarks(t, 1).See(0, api.MaxTime), "\x01\x01\x80\x80\x80\x80\x80\x40"},
		{newMarks(t, 1).See(0, -api.MaxTime), "\x01\x01\xff\xff\xff\xff\xff\x3f"},
	} {
		if p := mark.Lay(nil, x.m); string(p) != x.want {
			t.Errorf("%v: Lay = %x, not %x", x.m, p, x.want)
		}
		if m, ok := read([]byte(x.want)); m != x.m || !ok {
			t.Errorf("%x: Read = %v, %v", x.want, m, ok)
		}
	}
}

// P14.2: marks stand behind any bytes, and come back as they were, by ==.
func TestReadOfLay(t *testing.T) {
	for _, x := range someModels() {
		m := x.marks(t)
		for _, head := range []string{"", "\x00", "any bytes"} {
			p := mark.Lay([]byte(head), m)
			if want := head + string(x.bytes()); string(p) != want {
				t.Fatalf("%+v behind %q: Lay = %x, not %x", x, head, p, want)
			}
			got, ok := read(p[len(head):])
			if got != m || !ok {
				t.Errorf("%+v: Read = %v, %v", x, got, ok)
			}
			check(t, "what was read", got, x)
		}
	}
}

// P14.2: what was read goes on as what was laid.
func TestReadGoesOn(t *testing.T) {
	l := someModels()
	for i, x := range l {
		more := l[(i+17)%len(l)]
		got, ok := read(mark.Lay(nil, x.marks(t)))
		if !ok || got.Join(more.marks(t)) != x.marks(t).Join(more.marks(t)) {
			t.Errorf("%+v, read, and then %+v", x, more)
		}
		for _, s := range more.seen {
			got = got.See(s.part, s.t)
		}
		check(t, "read, and more seen", got, model{x.parts, slices.Concat(x.seen, more.seen)})
	}
}

// P14.2: marks are read one behind the other, with others' things between; no more than they is read.
func TestOneBehindTheOther(t *testing.T) {
	l := someModels()
	var p []byte
	for i, x := range l {
		p = column.Int(mark.Lay(column.Text(p, "between"), x.marks(t)), int64(-i))
	}
	if !column.Try(p, func(r *column.Reader) {
		for i, x := range l {
			text := r.Text(7)
			m := mark.Read(r)
			if n := r.Int(); m != x.marks(t) || text != "between" || n != int64(-i) {
				t.Errorf("%+v: %q, %v, %d", x, text, m, n)
			}
		}
	}) {
		t.Error("not all of the bytes were read")
	}
}

// P14.2: Read gives up at each beginning of what Lay laid.
func TestReadOfBeginnings(t *testing.T) {
	for _, x := range someModels() {
		p := x.bytes()
		for n := range p {
			if _, ok := read(p[:n]); ok || !gaveUp(p[:n]) {
				t.Errorf("%+v: %d of %d bytes are read", x, n, len(p))
			}
		}
	}
}

// number is n as column.Uint lays it, laid apart from the program.
func number(n uint64) []byte {
	return binary.AppendUvarint(nil, n)
}

// P14.2: what Read gives up at, and what it doesn't.
func TestReadPartByPart(t *testing.T) {
	manyUnseen := make([]byte, 300)
	for _, x := range []struct {
		what string
		p    []byte
		want bool
	}{
		{"one partition", []byte{1, 0}, true},
		{"MaxParts partitions", append(number(api.MaxParts), manyUnseen[:api.MaxParts]...), true},
		{"no partitions", []byte{0}, false},
		{"no partitions, and bytes", []byte{0, 0, 0}, false},
		{"one partition more than MaxParts", append(number(api.MaxParts+1), manyUnseen[:api.MaxParts+1]...), false},
		{"128 partitions", append(number(128), manyUnseen[:128]...), false},
		{"256 partitions", append(number(256), manyUnseen[:256]...), false},
		{"257 partitions", append(number(257), manyUnseen[:257]...), false},
		{"2^32 + 1 partitions", append(number(1<<32+1), 0), false},
		{"the most partitions there can be", append(number(math.MaxUint64), 0), false},
		{"a number of partitions with a byte to spare", []byte{0x81, 0, 0}, false},

		{"a time", []byte{1, 1, 7}, true},
		{"the greatest time", append([]byte{1, 1}, number(math.MaxUint64-1)...), true},
		{"the least time", append([]byte{1, 1}, number(math.MaxUint64)...), true},
		{"a time above MaxTime", append([]byte{1, 1}, number(2*api.MaxTime+2)...), true},
		{"a time below -MaxTime", append([]byte{1, 1}, number(2*api.MaxTime+1)...), true},
		{"a time with a byte to spare", []byte{1, 1, 0x87, 0}, false},
		{"a time of more than 64 bits", append([]byte{1, 1}, bytes.Repeat([]byte{0xff}, 10)...), false},
		{"a time of 65 bits", []byte{1, 1, 0xff, 0xff, 0xff, 0xff, 0xff, 0xff, 0xff, 0xff, 0xff, 0x03}, false},

		{"another byte as the first", []byte{2, 2, 7, 0}, false},
		{"another byte as the last", []byte{2, 0, 2, 7}, false},
		{"a great byte", []byte{1, 0x80}, false},
		{"a great byte, and a nought", []byte{1, 0x80, 0}, false},
		{"a byte that isn't 1 but has its bit", []byte{1, 0x81, 0}, false},
		{"a byte of all bits", []byte{1, 0xff}, false},
	} {
		m, ok := read(x.p)
		if ok != x.want || gaveUp(x.p) == x.want {
			t.Errorf("%s: Read of %x = %v, %v", x.what, x.p, m, ok)
		}
		if x.want && !bytes.Equal(mark.Lay(nil, m), x.p) {
			t.Errorf("%s: %x is laid as %x", x.what, x.p, mark.Lay(nil, m))
		}
	}
	for b := 2; b < 256; b++ {
		for _, p := range [][]byte{{1, byte(b)}, {1, byte(b), 0}, {1, byte(b), 0, 0}, {3, 0, byte(b), 0, 0}, {2, 1, 4, byte(b)}} {
			if _, ok := read(p); ok || !gaveUp(p) {
				t.Errorf("Read of %x doesn't give up", p)
			}
		}
	}
}

// isMarks tells whether bytes are marks', apart from the program.
func isMarks(p []byte) bool {
	next := func() (uint64, bool) {
		n, size := binary.Uvarint(p)
		if size <= 0 || size != len(number(n)) {
			return 0, false
		}
		p = p[size:]
		return n, true
	}
	parts, ok := next()
	if !ok || parts < 1 || parts > api.MaxParts {
		return false
	}
	for range parts {
		if len(p) == 0 || p[0] > 1 {
			return false
		}
		any := p[0] == 1
		p = p[1:]
		if !any {
			continue
		}
		if _, ok := next(); !ok {
			return false
		}
	}
	return len(p) == 0
}

// checkRead holds Read of any bytes against isMarks.
func checkRead(t *testing.T, p []byte) {
	t.Helper()
	before := bytes.Clone(p)
	m, ok := read(p)
	if ok != isMarks(p) || ok && !bytes.Equal(mark.Lay(nil, m), p) {
		t.Errorf("Read of %x = %v, %v", p, m, ok)
	}
	if !bytes.Equal(p, before) {
		t.Errorf("%x was changed: %x", before, p)
	}
}

// P14.2, P1: marks cut short, made longer, with a byte changed.
func TestReadOfSpoiltBytes(t *testing.T) {
	r := rand.New(rand.NewPCG(14, 3))
	for _, x := range someModels() {
		p := x.bytes()
		checkRead(t, p)
		checkRead(t, append(bytes.Clone(p), 0))
		for n := range p {
			checkRead(t, p[:n])
			q := bytes.Clone(p)
			q[n] ^= 1 << r.IntN(8)
			checkRead(t, q)
			q[n] = byte(r.IntN(256))
			checkRead(t, q)
			checkRead(t, slices.Insert(q, n, byte(r.IntN(3))))
		}
	}
}

// P1: Lay of zero values ends, and Read gives up at it.
func TestLayOfZeroValues(t *testing.T) {
	p := mark.Lay([]byte("head"), mark.Marks{})
	if !bytes.HasPrefix(p, []byte("head")) || !gaveUp(p[4:]) {
		t.Errorf("laid as %x", p)
	}
}

// P1: of no reader, and of one whose Try is over, nothing comes.
func TestNoReader(t *testing.T) {
	var over *column.Reader
	column.Try(newMarksBytes(), func(r *column.Reader) { over = r })
	for _, r := range []*column.Reader{nil, over} {
		if m := mark.Read(r); m != (mark.Marks{}) {
			t.Errorf("Read = %v", m)
		}
	}
}

func newMarksBytes() []byte {
	return model{2, []seen{{1, 9}}}.bytes()
}

// P2: bytes that were read, and bytes that were answered, may be written over; what stands ahead stays.
func TestMemory(t *testing.T) {
	x := model{3, []seen{{0, 1000}, {2, -api.MaxTime}}}
	m := x.marks(t)
	p := mark.Lay(nil, m)
	back, _ := read(p)
	if !bytes.Equal(p, x.bytes()) {
		t.Error("reading has changed its bytes")
	}
	for i := range p[:cap(p)] {
		p[:cap(p)][i] = 0xaa
	}
	check(t, "laid", m, x)
	check(t, "read", back, x)
	for _, room := range []int{3, 4, 9, 20, 1000} {
		head := append(make([]byte, 0, room), "abc"...)
		if got := mark.Lay(head, m); string(head) != "abc" || string(got) != "abc"+string(x.bytes()) {
			t.Errorf("room of %d: Lay = %x behind %q", room, got, head)
		}
	}
}

// P1: bytes of all kinds are read, or given up at, and what is read goes on.
func FuzzRead(f *testing.F) {
	for _, x := range someModels() {
		f.Add(x.bytes())
	}
	f.Fuzz(func(t *testing.T, p []byte) {
		checkRead(t, p)
		m, _ := read(p)
		m.See(1, 3).Join(m).Low()
	})
}
