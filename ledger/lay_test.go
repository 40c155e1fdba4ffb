package ledger_test

import (
	"bytes"
	"encoding/binary"
	"hash/crc32"
	"math"
	"math/rand/v2"
	"slices"
	"strings"
	"testing"

	"headrace/api"
	"headrace/ledger"
)

// pageOf is a page, laid apart from the program.
func pageOf(kind byte, body []byte) []byte {
	p := binary.LittleEndian.AppendUint32(nil, uint32(len(body)))
	p = append(append(p, kind), body...)
	return binary.LittleEndian.AppendUint32(p, crc32.ChecksumIEEE(p))
}

// numbers are numbers as column.Uint lays them, laid apart from the program.
func numbers(l ...uint64) []byte {
	var p []byte
	for _, n := range l {
		p = binary.AppendUvarint(p, n)
	}
	return p
}

// valueBytes are a telling's, of these parts, whether or not it is one.
func valueBytes(count, sum, over, least, greatest uint64) []byte {
	return numbers(count, sum, over, least, greatest)
}

// tellingBytes are a telling's bytes.
func tellingBytes(a api.Agg) []byte {
	var over uint64
	if a.Over {
		over = 1
	}
	return valueBytes(a.Count, bitsOf(a.Sum), over, bitsOf(a.Min), bitsOf(a.Max))
}

// changeBytes are a change's, of these parts, whether or not it is one.
func changeBytes(put byte, rev uint64, key string, from, to int64, telling []byte) []byte {
	p := binary.AppendUvarint([]byte{put}, rev)
	p = append(binary.AppendUvarint(p, uint64(len(key))), key...)
	p = binary.AppendVarint(binary.AppendVarint(p, from), to)
	return append(p, telling...)
}

// bodyOf is what stands in the page of changes, of which there are said to be n.
func bodyOf(n uint64, changes ...[]byte) []byte {
	return append(numbers(n), bytes.Join(changes, nil)...)
}

// bytesOf are changes as bytes, laid apart from the program.
func bytesOf(l []api.Change) []byte {
	var changes [][]byte
	for _, c := range l {
		var put byte
		if c.Put {
			put = 1
		}
		changes = append(changes, changeBytes(put, c.Rev, c.P.Key, c.P.W.Start, c.P.W.End, tellingBytes(c.P.A)))
	}
	return pageOf('l', bodyOf(uint64(len(l)), changes...))
}

// checkRead holds Read of p against what it is to answer.
func checkRead(t *testing.T, what any, p []byte, want []api.Change) {
	t.Helper()
	before := bytes.Clone(p)
	l, e := ledger.Read(p)
	if e != api.OK || !same(l, want) {
		t.Errorf("%v: Read of %x = %+v, error %d, not %+v", what, p, l, e, want)
	}
	if !bytes.Equal(p, before) {
		t.Errorf("%v: %x was changed: %x", what, before, p)
	}
}

func checkReadError(t *testing.T, what any, p []byte, want api.Errno) {
	t.Helper()
	if l, e := ledger.Read(p); e != want || len(l) > 0 {
		t.Errorf("%v: Read of %x = %+v, error %d, not %d", what, p, l, e, want)
	}
}

// someLists are changes of all kinds: none, one, many; next and not.
func someLists() [][]api.Change {
	l := [][]api.Change{nil}
	for _, c := range oddChanges() {
		l = append(l, []api.Change{c})
	}
	l = append(l, oddChanges())
	r := rand.New(rand.NewPCG(16, 10))
	for n := range 20 {
		l = append(l, someBook(r, n))
	}
	return append(l, someBook(r, 1000))
}

// oddChanges are changes of all tellings, windows, keys and revisions, in no order.
func oddChanges() []api.Change {
	var l []api.Change
	for i, a := range tellings {
		l = append(l, api.Change{Put: i%2 == 0, Rev: uint64(i), P: pane("k", win(int64(-i), int64(i)), a)})
	}
	for _, w := range []api.Window{
		win(0, 0), win(-1, 1), win(63, 64), win(-64, -65), win(math.MinInt64, math.MaxInt64), win(math.MaxInt64, math.MinInt64), win(-api.MaxTime, api.MaxTime),
	} {
		l = append(l, put(0, pane("w", w, tellings[4])), back(0, pane("w", w, tellings[4])))
	}
	for n := range api.MaxKey + 1 {
		l = append(l, put(1, pane(strings.Repeat("é\x00\xff", n)[:n], win(0, 10), tellings[n%len(tellings)])))
	}
	for _, rev := range []uint64{0, 1, 127, 128, 255, 256, 1<<32 - 1, 1 << 32, 1<<40 - 1, 1 << 40} {
		l = append(l, put(rev, abc), back(rev, abc))
	}
	return l
}

// P16.2: bytes that are written out.
func TestLayWrittenOut(t *testing.T) {
	const six, one, three = "\x80\x80\x80\x80\x80\x80\x80\x8c\x40", "\x80\x80\x80\x80\x80\x80\x80\xf8\x3f", "\x80\x80\x80\x80\x80\x80\x80\x84\x40"
	const negated, noNumber = "\x80\x80\x80\x80\x80\x80\x80\x80\x80\x01", "\x80\x80\x80\x80\x80\x80\x80\xfc\x7f"
	for _, x := range []struct {
		l    []api.Change
		body string
	}{
		{nil, "\x00"},
		{[]api.Change{{}}, "\x01" + "\x00\x00" + "\x00" + "\x00\x00" + "\x00\x00\x00\x00\x00"},
		{[]api.Change{put(0, abc)}, "\x01" + "\x01\x00" + "\x03abc" + "\x00\x14" + "\x03" + six + "\x00" + one + three},
		{[]api.Change{back(300, pane("", win(-1, 64), api.Agg{Count: 1, Sum: minusZero, Over: true, Max: none[2]}))},
			"\x01" + "\x00\xac\x02" + "\x00" + "\x01\x80\x01" + "\x01" + negated + "\x01" + "\x00" + noNumber},
		{[]api.Change{put(1, pane("a", win(-65, -64), api.Agg{})), back(2, pane("\x00b", win(1, -2), api.Agg{Count: 128}))},
			"\x02" + "\x01\x01" + "\x01a" + "\x81\x01\x7f" + "\x00\x00\x00\x00\x00" + "\x00\x02" + "\x02\x00b" + "\x02\x03" + "\x80\x01\x00\x00\x00\x00"},
		{[]api.Change{put(1<<40, pane("", win(api.MaxTime, -api.MaxTime), api.Agg{Count: 1 << 40}))},
			"\x01" + "\x01\x80\x80\x80\x80\x80\x20" + "\x00" + "\x80\x80\x80\x80\x80\x40" + "\xff\xff\xff\xff\xff\x3f" + "\x80\x80\x80\x80\x80\x20\x00\x00\x00\x00"},
	} {
		p := pageOf('l', []byte(x.body))
		if got := ledger.Lay(x.l); !bytes.Equal(got, p) {
			t.Errorf("%+v: Lay = %x, not %x", x.l, got, p)
		}
		checkRead(t, "written out", p, x.l)
	}
	whole := "\x01\x00\x00\x00l\x00" + "\xad\x56\xd6\xb3"
	if got := ledger.Lay(nil); string(got) != whole {
		t.Errorf("no changes: Lay = %x, not %x", got, whole)
	}
}

// P16.2: changes as bytes, and back, whether or not a ledger would take them.
func TestReadOfLay(t *testing.T) {
	for i, l := range someLists() {
		p := ledger.Lay(l)
		if want := bytesOf(l); !bytes.Equal(p, want) {
			t.Fatalf("list %d: Lay = %x, not %x", i, p, want)
		}
		checkRead(t, i, p, l)
	}
}

// P16.2: nil and empty lists are laid as the same.
func TestLayOfNothing(t *testing.T) {
	if !bytes.Equal(ledger.Lay(nil), ledger.Lay([]api.Change{})) {
		t.Error("nil isn't laid as an empty list")
	}
}

// P16.2: what is no number is laid with the one's bits, whatever it has.
func TestLayOfNoNumbers(t *testing.T) {
	want := bytesOf([]api.Change{put(0, pane("a", win(0, 1), api.Agg{Count: 2, Sum: nan, Min: nan, Max: nan}))})
	for _, x := range none {
		l := []api.Change{put(0, pane("a", win(0, 1), api.Agg{Count: 2, Sum: x, Min: x, Max: x}))}
		if p := ledger.Lay(l); !bytes.Equal(p, want) {
			t.Errorf("%x: Lay = %x, not %x", math.Float64bits(x), p, want)
		}
	}
}

// P16.1, P16.2: a ledger of what was read is the one that was laid, and goes on as that.
func TestLedgerOfRead(t *testing.T) {
	r := rand.New(rand.NewPCG(16, 11))
	for n := range 60 {
		b := someBook(r, n)
		at := r.IntN(n + 1)
		l, e := ledger.Read(ledger.Lay(ledgerOf(t, b[:at]).All()))
		if e != api.OK {
			t.Fatalf("Read: error %d", e)
		}
		var g ledger.Ledger
		ahead := mustAdd(t, "what was read", &g, nil, l...)
		mustAdd(t, "and more", &g, ahead, b[at:]...)
	}
}

// P16.2: bytes that end too soon, and bytes behind.
func TestReadOfOtherLengths(t *testing.T) {
	for _, l := range [][]api.Change{nil, {put(0, abc)}, someBook(rand.New(rand.NewPCG(16, 12)), 9)} {
		p := bytesOf(l)
		for n := range p {
			checkReadError(t, "a beginning", p[:n], api.ErrForm)
		}
		for _, behind := range [][]byte{{0}, {0xff}, p, pageOf('l', nil), make([]byte, 100)} {
			checkReadError(t, "bytes behind", slices.Concat(p, behind), api.ErrForm)
		}
	}
	checkReadError(t, "no bytes", nil, api.ErrForm)
	checkReadError(t, "no bytes", []byte{}, api.ErrForm)
}

// P16.2: pages of all other kinds.
func TestReadOfAnotherKind(t *testing.T) {
	body := bodyOf(1, changeBytes(1, 0, "abc", 0, 10, tellingBytes(abc.A)))
	for kind := range 256 {
		if p := pageOf(byte(kind), body); kind == 'l' {
			checkRead(t, "the kind", p, []api.Change{put(0, abc)})
		} else {
			checkReadError(t, kind, p, api.ErrForm)
		}
	}
}

// P16.2, P7: turned bits within 32, those of how many bytes it has apart, are told by ErrSum; those by some error.
func TestTurnedBits(t *testing.T) {
	p := bytesOf([]api.Change{put(0, abc), back(0, abc), put(1, pane("b", win(-5, 5), tellings[12]))})
	for from := range 8 * len(p) {
		for _, n := range []int{1, 2, 17, 32} {
			q := bytes.Clone(p)
			for bit := from; bit < min(from+n, 8*len(p)); bit++ {
				q[bit/8] ^= 1 << (bit % 8)
			}
			if from >= 32 {
				checkReadError(t, from, q, api.ErrSum)
			} else if l, e := ledger.Read(q); e != api.ErrSum && e != api.ErrForm || len(l) > 0 {
				t.Errorf("%d bits from %d on: Read = %+v, error %d", n, from, l, e)
			}
		}
	}
}

// P16.2: within the page: each beginning of the changes, and bytes behind them.
func TestReadOfOtherBodies(t *testing.T) {
	for _, l := range [][]api.Change{nil, {put(0, abc)}, someBook(rand.New(rand.NewPCG(16, 13)), 5)} {
		p := bytesOf(l)
		body := p[5 : len(p)-4]
		for n := range body {
			checkReadError(t, "bytes are missing", pageOf('l', body[:n]), api.ErrForm)
		}
		for b := range 256 {
			checkReadError(t, "a byte behind", pageOf('l', slices.Concat(body, []byte{byte(b)})), api.ErrForm)
		}
		checkReadError(t, "the same again", pageOf('l', slices.Concat(body, body)), api.ErrForm)
	}
}

// P16.2: how many changes there are said to be.
func TestReadOfOtherCounts(t *testing.T) {
	l := someBook(rand.New(rand.NewPCG(16, 14)), 200)
	p := bytesOf(l)
	changes := p[5+2 : len(p)-4]
	for n := range uint64(300) {
		q := pageOf('l', bodyOf(n, changes))
		if n == 200 {
			checkRead(t, "as many", q, l)
		} else {
			checkReadError(t, n, q, api.ErrForm)
		}
	}
	for _, n := range []uint64{1 << 20, 1 << 31, 1<<32 + 200, 1 << 40, 1<<63 + 200, 1 << 63, math.MaxInt64, math.MaxUint64} {
		checkReadError(t, n, pageOf('l', bodyOf(n, changes)), api.ErrForm)
		checkReadError(t, n, pageOf('l', bodyOf(n)), api.ErrForm)
	}
	for _, n := range []string{"\xc8\x81\x00", "\xff\xff\xff\xff\xff\xff\xff\xff\xff\x02", "\xff\xff\xff\xff\xff\xff\xff\xff\xff\xff\x01"} {
		checkReadError(t, "no number", pageOf('l', append([]byte(n), changes...)), api.ErrForm)
	}
}

// P16.2: what each part of a change may be, and what it may not.
func TestReadPartByPart(t *testing.T) {
	const half, negated = 0x3fe0000000000000, 1 << 63
	value := valueBytes(1, half, 0, half, half)
	type part struct {
		what   string
		change []byte
		want   bool
	}
	parts := []part{
		{"told", changeBytes(1, 0, "k", 0, 10, value), true},
		{"taken back", changeBytes(0, 0, "k", 0, 10, value), true},

		{"a Rev of 2^40", changeBytes(1, 1<<40, "k", 0, 10, value), true},
		{"a Rev above 2^40", changeBytes(1, 1<<40+1, "k", 0, 10, value), false},
		{"a Rev of 2^41", changeBytes(0, 1<<41, "k", 0, 10, value), false},
		{"the greatest Rev", changeBytes(0, math.MaxUint64, "k", 0, 10, value), false},
		{"a Rev with a byte to spare", slices.Concat([]byte{1, 0x80, 0}, changeBytes(1, 0, "k", 0, 10, value)[2:]), false},

		{"no Key", changeBytes(1, 0, "", 0, 10, value), true},
		{"a Key of 32 bytes", changeBytes(1, 0, longest, 0, 10, value), true},
		{"a Key of 33 bytes", changeBytes(1, 0, longest+"k", 0, 10, value), false},
		{"a Key of 200 bytes", changeBytes(1, 0, strings.Repeat("k", 200), 0, 10, value), false},
		{"a Key of bytes of all kinds", changeBytes(1, 0, "\x00\xff\xc3", 0, 10, value), true},

		{"the widest window", changeBytes(1, 0, "k", math.MinInt64, math.MaxInt64, value), true},
		{"a window that ends ahead of its start", changeBytes(1, 0, "k", math.MaxInt64, math.MinInt64, value), true},
		{"a Start of more than 64 bits", slices.Concat([]byte{1, 0, 0}, bytes.Repeat([]byte{0xff}, 9), []byte{2, 0}, value), false},
		{"an End of more than 64 bits", slices.Concat([]byte{1, 0, 0, 0}, bytes.Repeat([]byte{0xff}, 9), []byte{2}, value), false},
		{"a Start with a byte to spare", slices.Concat([]byte{1, 0, 0, 0x80, 0, 0}, value), false},
		{"an End with a byte to spare", slices.Concat([]byte{1, 0, 0, 0, 0x80, 0}, value), false},

		{"a Count of 2^40", changeBytes(1, 0, "k", 0, 10, valueBytes(1<<40, half, 0, half, half)), true},
		{"a Count above 2^40", changeBytes(1, 0, "k", 0, 10, valueBytes(1<<40+1, half, 0, half, half)), false},
		{"the greatest Count", changeBytes(0, 0, "k", 0, 10, valueBytes(math.MaxUint64, half, 0, half, half)), false},
		{"a Count of 0", changeBytes(1, 0, "k", 0, 10, valueBytes(0, half, 1, half, half)), true},
		{"Over", changeBytes(1, 0, "k", 0, 10, valueBytes(1, half, 1, half, half)), true},
		{"an Over of 2", changeBytes(1, 0, "k", 0, 10, valueBytes(1, half, 2, half, half)), false},
		{"an Over of 128", changeBytes(1, 0, "k", 0, 10, valueBytes(1, half, 128, half, half)), false},
		{"-0 everywhere", changeBytes(1, 0, "k", 0, 10, valueBytes(1, negated, 0, negated, negated)), true},
		{"no numbers", changeBytes(1, 0, "k", 0, 10, valueBytes(1, theOne, 0, theOne, theOne)), true},
		{"a Min above the Max", changeBytes(1, 0, "k", 0, 10, valueBytes(1, half, 0, half, negated)), true},
		{"a telling with a part less", changeBytes(1, 0, "k", 0, 10, numbers(1, half, 0, half)), false},
		{"a telling with a part more", changeBytes(1, 0, "k", 0, 10, numbers(1, half, 0, half, half, 0)), false},
	}
	for b := 2; b < 256; b++ {
		parts = append(parts, part{"another byte", changeBytes(byte(b), 0, "k", 0, 10, value), false})
	}
	for _, x := range none[1:] {
		b := math.Float64bits(x)
		parts = append(parts,
			part{"a Sum of no Bits", changeBytes(1, 0, "k", 0, 10, valueBytes(1, b, 0, half, half)), false},
			part{"a Min of no Bits", changeBytes(1, 0, "k", 0, 10, valueBytes(1, half, 0, b, half)), false},
			part{"a Max of no Bits", changeBytes(1, 0, "k", 0, 10, valueBytes(1, half, 0, half, b)), false})
	}
	for _, x := range parts {
		checkPart(t, x.what, x.change, x.want)
	}
}

// checkPart reads a change alone, and among others, wherever it stands.
func checkPart(t *testing.T, what string, change []byte, want bool) {
	t.Helper()
	other := changeBytes(1, 0, "abc", 0, 10, tellingBytes(abc.A))
	for _, l := range [][][]byte{{change}, {change, other, other}, {other, change, other}, {other, other, change}} {
		p := pageOf('l', bodyOf(uint64(len(l)), l...))
		if !want {
			checkReadError(t, what, p, api.ErrForm)
			continue
		}
		read, e := ledger.Read(p)
		if e != api.OK || !bytes.Equal(ledger.Lay(read), p) {
			t.Errorf("%s: Read of %x = %+v, error %d", what, p, read, e)
		}
	}
}

// P16.2: of several faults the page's goes first, and of the page's those of its bytes.
func TestReadOfSeveralFaults(t *testing.T) {
	good := bodyOf(1, changeBytes(1, 0, "abc", 0, 10, tellingBytes(abc.A)))
	bad := bodyOf(1, changeBytes(2, 0, "abc", 0, 10, tellingBytes(abc.A)))
	turned := func(p []byte) []byte {
		p[len(p)-1] ^= 1
		return p
	}
	for _, x := range []struct {
		what string
		p    []byte
		want api.Errno
	}{
		{"no changes, and a wrong sum", turned(pageOf('l', bad)), api.ErrSum},
		{"another kind, and a wrong sum", turned(pageOf('k', good)), api.ErrSum},
		{"another kind, no changes, and a wrong sum", turned(pageOf('k', bad)), api.ErrSum},
		{"bytes behind, and a wrong sum", append(turned(pageOf('l', good)), 0), api.ErrSum},
		{"all of these", append(turned(pageOf('k', bad)), 0), api.ErrSum},
		{"another kind, and no changes", pageOf('k', bad), api.ErrForm},
		{"bytes behind, and no changes", append(pageOf('l', bad), 0), api.ErrForm},
		{"a byte is missing, and a wrong sum", turned(pageOf('l', good))[1:], api.ErrForm},
		{"the last byte is missing, of a wrong sum", pageOf('l', good)[:len(good)+8], api.ErrForm},
	} {
		checkReadError(t, x.what, x.p, x.want)
	}
}

// longestPage is a list of changes whose page's body has so many bytes.
func longestPage(t *testing.T, size int) []api.Change {
	t.Helper()
	one := put(0, pane(longest, win(0, 0), api.Agg{}))
	each := len(bytesOf([]api.Change{one})) - len(bytesOf(nil))
	l := slices.Repeat([]api.Change{one}, (size-3)/each)
	missing := size - (len(bytesOf(l)) - 9)
	for i := 0; missing > 0; i++ {
		// A longer key than 32 bytes is none; a revision may take up to 5 bytes more.
		more := min(missing, 5)
		l[i].Rev = 1 << (7 * more)
		missing -= more
	}
	if n := len(bytesOf(l)) - 9; n != size {
		t.Fatalf("%d bytes, not %d", n, size)
	}
	return l
}

// P16.2: the longest page there may be, and one byte more.
func TestReadOfTheLongest(t *testing.T) {
	l := longestPage(t, api.MaxPage)
	p := ledger.Lay(l)
	if got, e := ledger.Read(p); e != api.OK || !same(got, l) || !bytes.Equal(p, bytesOf(l)) {
		t.Errorf("%d changes: %d are read, error %d", len(l), len(got), e)
	}
	l = longestPage(t, api.MaxPage+1)
	for _, p := range [][]byte{ledger.Lay(l), bytesOf(l)} {
		if got, e := ledger.Read(p); e != api.ErrForm || len(got) > 0 {
			t.Errorf("%d changes: %d are read, error %d", len(l), len(got), e)
		}
		p[len(p)-1] ^= 1
		if _, e := ledger.Read(p); e != api.ErrForm {
			t.Errorf("too long, and a wrong sum: error %d", e)
		}
	}
}

// P16.2: as many changes as a page has room for.
func TestReadOfTheMost(t *testing.T) {
	l := make([]api.Change, (api.MaxPage-3)/10)
	p := ledger.Lay(l)
	if got, e := ledger.Read(p); e != api.OK || !same(got, l) || !bytes.Equal(p, bytesOf(l)) {
		t.Errorf("%d changes: %d are read, error %d", len(l), len(got), e)
	}
}

// P1: changes that Read refuses are laid all the same.
func TestLayOfWhatReadRefuses(t *testing.T) {
	for _, c := range []api.Change{
		put(1<<40+1, abc), back(math.MaxUint64, abc), put(0, pane(longest+"k", abc.W, abc.A)), put(0, pane(strings.Repeat("k", 5000), abc.W, abc.A)),
		put(0, pane("a", abc.W, api.Agg{Count: 1<<40 + 1})), put(0, pane("a", abc.W, api.Agg{Count: math.MaxUint64})),
	} {
		l := []api.Change{put(0, abc), c}
		p := ledger.Lay(l)
		if !bytes.Equal(p, bytesOf(l)) {
			t.Errorf("%+v: Lay = %x", c, p)
		}
		checkReadError(t, c, p, api.ErrForm)
	}
}

// P2: what is laid and read isn't changed, and may be written over, and so may what is answered.
func TestLayMemory(t *testing.T) {
	l := oddChanges()
	p := ledger.Lay(l)
	want := bytesOf(oddChanges())
	if !same(l, oddChanges()) {
		t.Error("Lay has changed its list")
	}
	overwrite(l, put(9, abc))
	if !bytes.Equal(p, want) {
		t.Error("what was laid hangs on the list")
	}
	room := append(make([]byte, 0, len(p)+10), p...)
	read, _ := ledger.Read(room)
	again, _ := ledger.Read(room)
	if !bytes.Equal(room, want) || slices.Max(room[len(room):cap(room)]) != 0 {
		t.Error("Read has changed its bytes")
	}
	overwrite(room, 0xaa)
	if !same(read, oddChanges()) {
		t.Error("what was read hangs on the bytes")
	}
	overwrite(read, put(9, abc))
	if !same(again, oddChanges()) {
		t.Error("what was read twice hangs together")
	}
	overwrite(p, 0xaa)
	if !bytes.Equal(ledger.Lay(again), want) {
		t.Error("what is laid hangs on what was laid")
	}
}
