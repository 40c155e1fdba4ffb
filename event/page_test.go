package event_test

import (
	"bytes"
	"encoding/binary"
	"math"
	"math/rand/v2"
	"slices"
	"strings"
	"testing"

	"headrace/api"
	"headrace/column"
	"headrace/event"
	"headrace/page"
)

// pageOf is a page of events' kind, whatever its body is.
func pageOf(body []byte) []byte {
	return page.Lay(nil, 'e', body)
}

// bodyOf is a body of columns, laid apart from the program.
func bodyOf(columns ...[]byte) []byte {
	var p []byte
	for _, c := range columns {
		p = binary.AppendUvarint(p, uint64(len(c)))
		p = append(p, c...)
	}
	return p
}

// columnsOf are the five columns of events, the first three by lay.
func columnsOf(l []api.Event, lay func([]int64) []byte) [][]byte {
	whole := make([][]int64, 3)
	var keys []string
	var vals []float64
	for _, e := range l {
		for i, n := range []int64{int64(e.Offset), int64(e.Part), e.Time} {
			whole[i] = append(whole[i], n)
		}
		keys = append(keys, e.Key)
		vals = append(vals, e.Val)
	}
	return [][]byte{lay(whole[0]), lay(whole[1]), lay(whole[2]), column.Texts(keys), column.Reals(vals)}
}

// same: are they the same events, all that is no number as one?
func same(a, b []api.Event) bool {
	return slices.EqualFunc(a, b, func(a, b api.Event) bool {
		noNumbers := a.Val != a.Val && b.Val != b.Val
		if noNumbers {
			a.Val, b.Val = 0, 0
		}
		return alike(a, b)
	})
}

func checkRead(t *testing.T, p []byte, at, parts int, want []api.Event, behind int) {
	t.Helper()
	l, n, e := event.Read(p, at, parts)
	if !same(l, want) || n != behind || e != api.OK {
		t.Errorf("Read of %d bytes at %d, %d partitions = %d events, %d, %d; not %d events, %d", len(p), at, parts, len(l), n, e, len(want), behind)
	}
}

func checkReadError(t *testing.T, p []byte, at, parts int, want api.Errno) {
	t.Helper()
	if l, n, e := event.Read(p, at, parts); len(l) != 0 || n != 0 || e != want {
		t.Errorf("Read of %x at %d, %d partitions = %#v, %d, %d; not error %d beside noughts", p, at, parts, l, n, e, want)
	}
}

// P6.2: bodies that are written out.
func TestLayWrittenOut(t *testing.T) {
	for _, c := range []struct {
		l    []api.Event
		body string
	}{
		{nil, "\x02\x00\x00" + "\x02\x00\x00" + "\x02\x00\x00" + "\x03\x00\x00\x00" + "\x02\x00\x00"},
		{
			[]api.Event{{Offset: 5, Part: 1, Time: -3, Key: "ab", Val: 1.5}},
			"\x03\x00\x01\x0a" + "\x03\x00\x01\x02" + "\x03\x00\x01\x05" + "\x07\x01\x02ab\x00\x01\x00" +
				"\x0b\x00\x01\x80\x80\x80\x80\x80\x80\x80\xf8\x7f",
		},
		{
			[]api.Event{{Offset: 200, Key: "b"}, {Offset: 300, Key: "a"}, {Offset: 400, Key: "b"}},
			"\x08\x00\x03\x90\x03\xd8\x04\xa0\x06" + "\x04\x02\x03\x00\x02" + "\x04\x02\x03\x00\x02" +
				"\x0a\x02\x01a\x01b\x00\x03\x02\x00\x02" + "\x04\x02\x03\x00\x02",
		},
	} {
		p := event.Lay(nil, c.l)
		if want := pageOf([]byte(c.body)); !bytes.Equal(p, want) {
			t.Errorf("Lay(%#v) = %x, not %x", c.l, p, want)
		}
		checkRead(t, p, 0, 2, c.l, len(p))
	}
}

// lists are events with Form of a log of MaxParts partitions: none, few, at each edge, many.
func lists() [][]api.Event {
	longest := strings.Repeat("\xff", api.MaxKey)
	l := [][]api.Event{
		nil, {}, {{}}, {{}, {}},
		{{Offset: api.MaxOffset - 1, Part: api.MaxParts - 1, Time: api.MaxTime, Key: longest, Val: math.Inf(1)}},
		{{Time: -api.MaxTime}, {Offset: api.MaxOffset - 1, Part: api.MaxParts - 1, Time: api.MaxTime, Key: longest}},
		{{Offset: 3, Key: "b"}, {Offset: 1, Key: "a"}, {Offset: 2, Key: "c"}, {Offset: 1, Key: "a"}},
	}
	var valued []api.Event
	for i, x := range slices.Concat(vals, none) {
		valued = append(valued, api.Event{Offset: uint64(i), Val: x})
	}
	for n := range 40 {
		l = append(l, someEvents(uint64(n), n, api.MaxParts))
	}
	return append(l, valued, wideEvents(300), wideEvents(api.MaxRows))
}

// wideEvents are n events whose columns take as many bytes as they can, nearly.
func wideEvents(n int) []api.Event {
	r := rand.New(rand.NewPCG(uint64(n), 8))
	l := make([]api.Event, n)
	for i := range l {
		key := make([]byte, api.MaxKey)
		for k := range key {
			key[k] = byte(r.Uint32())
		}
		l[i] = api.Event{
			Offset: r.Uint64N(api.MaxOffset),
			Part:   r.IntN(api.MaxParts),
			Time:   r.Int64N(2*api.MaxTime+1) - api.MaxTime,
			Key:    string(key),
			Val:    math.Float64frombits(r.Uint64()),
		}
	}
	return l
}

// P6.2: a page of the five columns, in that order, and back.
func TestReadOfLay(t *testing.T) {
	for _, l := range lists() {
		p := event.Lay(nil, l)
		if want := pageOf(bodyOf(columnsOf(l, column.Ints)...)); !bytes.Equal(p, want) {
			t.Errorf("Lay(%#v) = %x, not %x", l, p, want)
		}
		for _, parts := range []int{api.MaxParts, api.MaxParts + 1, math.MaxInt} {
			checkRead(t, p, 0, parts, l, len(p))
		}
	}
	if event.Kind != 'e' {
		t.Errorf("Kind = %v", event.Kind)
	}
}

// P6.2: what is no number is read as the one.
func TestReadOfNoNumbers(t *testing.T) {
	for _, x := range none {
		l, _, _ := event.Read(event.Lay(nil, []api.Event{{Val: x}}), 0, 1)
		if len(l) != 1 || math.Float64bits(l[0].Val) != 0x7ff8000000000000 {
			t.Errorf("bits %x: read as %#v", math.Float64bits(x), l)
		}
	}
}

// P6.2: pages stand behind other bytes, ahead of others, and one behind the other.
func TestReadOfSeveral(t *testing.T) {
	p := []byte("ahead")
	at := []int{len(p)}
	for _, l := range lists() {
		p = event.Lay(p, l)
		at = append(at, len(p))
	}
	p = append(p, "behind"...)
	for i, l := range lists() {
		checkRead(t, p, at[i], api.MaxParts, l, at[i+1])
	}
	if string(p[:5]) != "ahead" {
		t.Errorf("bytes ahead are %q", p[:5])
	}
}

// P6.2: page.Read's errors go first.
func TestReadOfNoPage(t *testing.T) {
	l := someEvents(4, 5, 3)
	p := event.Lay(nil, l)
	for _, at := range []int{math.MinInt, -1, len(p) + 1, math.MaxInt} {
		checkReadError(t, p, at, 3, api.ErrArg)
		checkReadError(t, p, at, 0, api.ErrArg)
	}
	checkReadError(t, nil, 1, 3, api.ErrArg)
	checkReadError(t, nil, 0, 3, api.ErrForm)
	checkReadError(t, p, len(p), 3, api.ErrForm)
	for n := range p {
		checkReadError(t, p[:n], 0, 3, api.ErrForm)
	}
	// A page of another kind, whose events have no Form either, but whose sum is wrong.
	other := page.Lay(nil, 'f', []byte("no columns"))
	other[7] ^= 4
	checkReadError(t, other, 0, 3, api.ErrSum)
	checkReadError(t, other, 0, -1, api.ErrSum)
}

// P7: each bit of a page of events, and each 32 of them, but those of how many bytes it has.
func TestTurnedBits(t *testing.T) {
	whole := event.Lay(nil, someEvents(5, 6, 3))
	for from := 32; from < 8*len(whole); from++ {
		p := slices.Clone(whole)
		p[from/8] ^= 1 << (from % 8)
		checkReadError(t, p, 0, 3, api.ErrSum)
		for bit := from + 1; bit < min(from+32, 8*len(p)); bit++ {
			p[bit/8] ^= 1 << (bit % 8)
		}
		checkReadError(t, p, 0, 3, api.ErrSum)
	}
}

// P6.2: a page of another kind.
func TestReadOfAnotherKind(t *testing.T) {
	l := someEvents(6, 7, 3)
	body := bodyOf(columnsOf(l, column.Ints)...)
	for kind := range 256 {
		p := page.Lay(nil, byte(kind), body)
		if kind == 'e' {
			checkRead(t, p, 0, 3, l, len(p))
		} else {
			checkReadError(t, p, 0, 3, api.ErrForm)
		}
	}
}

// P6.2: columns in whatever way; five of them, and nothing else.
func TestReadOfColumns(t *testing.T) {
	l := someEvents(7, 7, 3)
	for _, way := range []byte{column.Plain, column.Delta, column.Runs, column.Packed} {
		p := pageOf(bodyOf(columnsOf(l, func(l []int64) []byte { return column.As(way, l) })...))
		checkRead(t, p, 0, 3, l, len(p))
	}
	five := columnsOf(l, column.Ints)
	body := bodyOf(five...)
	bad := [][]byte{
		nil,
		{0},
		bodyOf(nil, nil, nil, nil, nil),
		bodyOf(five[:4]...),
		bodyOf(five[1:]...),
		bodyOf(append(slices.Clone(five), five[4])...),
		bodyOf(append(slices.Clone(five), nil)...),
		append(slices.Clone(body), 0),
		append(slices.Clone(body), "more"...),
		bodyOf(five[0], five[1], five[2], five[4], five[3]),
		slices.Concat(five...),
		// Of the first column's length there is a byte more than need be.
		slices.Concat([]byte{body[0] | 0x80, 0}, body[1:]),
	}
	for n := range body {
		bad = append(bad, body[:n])
	}
	for _, b := range bad {
		checkReadError(t, pageOf(b), 0, 3, api.ErrForm)
	}
}

// P6.2: each column with bytes left, cut short, or none.
func TestReadOfNoColumn(t *testing.T) {
	five := columnsOf(someEvents(8, 5, 3), column.Ints)
	for i, c := range five {
		bad := [][]byte{nil, append(slices.Clone(c), 0), append(slices.Clone(c), c...), append([]byte{9}, c[1:]...)}
		for n := range c {
			bad = append(bad, c[:n])
		}
		for _, b := range bad {
			columns := slices.Clone(five)
			columns[i] = b
			checkReadError(t, pageOf(bodyOf(columns...)), 0, 3, api.ErrForm)
		}
	}
}

// P6.2: columns of unlike numbers of rows.
func TestReadOfUnlikeRows(t *testing.T) {
	l := someEvents(9, 5, 3)
	five := columnsOf(l, column.Ints)
	for _, rows := range [][]api.Event{nil, l[:1], l[:4], someEvents(9, 6, 3), someEvents(9, 100, 3)} {
		others := columnsOf(rows, column.Ints)
		for i := range five {
			columns := slices.Clone(five)
			columns[i] = others[i]
			checkReadError(t, pageOf(bodyOf(columns...)), 0, 3, api.ErrForm)
			columns = slices.Clone(others)
			columns[i] = five[i]
			checkReadError(t, pageOf(bodyOf(columns...)), 0, 3, api.ErrForm)
		}
	}
}

// P6.2: MaxRows events are read, and one more aren't.
func TestReadRows(t *testing.T) {
	for _, l := range [][]api.Event{wideEvents(api.MaxRows + 1), make([]api.Event, api.MaxRows+1)} {
		p := event.Lay(nil, l[1:])
		checkRead(t, p, 0, api.MaxParts, l[1:], len(p))
		checkReadError(t, event.Lay(nil, l), 0, api.MaxParts, api.ErrForm)
	}
}

// rawPage is a page of one event, whose numbers may be none that an event has.
func rawPage(offset, part, time int64, key string, bits int64) []byte {
	return pageOf(bodyOf(
		column.Ints([]int64{offset}), column.Ints([]int64{part}), column.Ints([]int64{time}),
		column.Texts([]string{key}), column.Ints([]int64{bits}),
	))
}

// P6.2: an event without Form; at each edge, and one beyond.
func TestReadOfNoForm(t *testing.T) {
	longest := strings.Repeat("k", api.MaxKey)
	for _, e := range []api.Event{
		{}, {Part: 2}, {Time: -api.MaxTime}, {Time: api.MaxTime}, {Offset: api.MaxOffset - 1}, {Key: longest},
		{Part: 2, Time: api.MaxTime, Offset: api.MaxOffset - 1, Key: longest, Val: math.Inf(1)},
	} {
		p := rawPage(int64(e.Offset), int64(e.Part), e.Time, e.Key, int64(math.Float64bits(e.Val)))
		checkRead(t, p, 0, 3, []api.Event{e}, len(p))
	}
	for _, p := range [][]byte{
		rawPage(api.MaxOffset, 0, 0, "", 0), rawPage(-1, 0, 0, "", 0), rawPage(math.MinInt64, 0, 0, "", 0), rawPage(math.MaxInt64, 0, 0, "", 0),
		rawPage(0, 3, 0, "", 0), rawPage(0, -1, 0, "", 0), rawPage(0, 1<<32, 0, "", 0), rawPage(0, 1<<32+1, 0, "", 0),
		rawPage(0, math.MinInt64, 0, "", 0), rawPage(0, math.MaxInt64, 0, "", 0),
		rawPage(0, 0, api.MaxTime+1, "", 0), rawPage(0, 0, -api.MaxTime-1, "", 0), rawPage(0, 0, math.MinInt64, "", 0), rawPage(0, 0, math.MaxInt64, "", 0),
		rawPage(0, 0, 0, longest+"k", 0),
		rawPage(0, 0, 0, "", 0x7ff8000000000001), rawPage(0, 0, 0, "", -1),
	} {
		checkReadError(t, p, 0, 3, api.ErrForm)
	}
}

// P6.2: one event without Form among others, wherever it stands.
func TestReadOfOneWithoutForm(t *testing.T) {
	for _, spoil := range []func(e *api.Event){
		func(e *api.Event) { e.Part = 3 },
		func(e *api.Event) { e.Part = -1 },
		func(e *api.Event) { e.Time = api.MaxTime + 1 },
		func(e *api.Event) { e.Time = -api.MaxTime - 1 },
		func(e *api.Event) { e.Offset = api.MaxOffset },
		func(e *api.Event) { e.Key = strings.Repeat("k", api.MaxKey+1) },
	} {
		for i := range 6 {
			l := someEvents(10, 6, 3)
			spoil(&l[i])
			checkReadError(t, event.Lay(nil, l), 0, 3, api.ErrForm)
		}
	}
}

// P6.2: a log of fewer partitions than an event's; of none it has no events.
func TestReadOfFewerParts(t *testing.T) {
	p := event.Lay(nil, []api.Event{{Part: 0}, {Part: 4}, {Part: 1}})
	for parts := range api.MaxParts + 1 {
		if parts > 4 {
			checkRead(t, p, 0, parts, []api.Event{{Part: 0}, {Part: 4}, {Part: 1}}, len(p))
		} else {
			checkReadError(t, p, 0, parts, api.ErrForm)
		}
	}
	first, empty := event.Lay(nil, []api.Event{{}}), event.Lay(nil, nil)
	for _, parts := range []int{0, -1, math.MinInt} {
		checkReadError(t, p, 0, parts, api.ErrForm)
		checkReadError(t, first, 0, parts, api.ErrForm)
		checkRead(t, empty, 0, parts, nil, len(empty))
	}
}

// What is handed in to Lay isn't changed and not kept; the room behind may be used.
func TestLayMemory(t *testing.T) {
	l := someEvents(11, 9, 3)
	laid := event.Lay(nil, l)
	room := slices.Repeat([]byte{0xee}, 2*len(laid))
	for _, p := range [][]byte{room[:0:0], room[:3:3], room[:3:10], room[: 3 : len(laid)+3], room[:3]} {
		before, events := slices.Clone(p), slices.Clone(l)
		got := event.Lay(p, events)
		if !bytes.Equal(p, before) || !slices.EqualFunc(events, l, alike) {
			t.Errorf("Lay changed what was handed in: %x, %#v", p, events)
		}
		clear(events)
		if !bytes.Equal(got, slices.Concat(before, laid)) {
			t.Errorf("Lay behind %d bytes with room for %d = %x", len(p), cap(p), got)
		}
	}
}

// What Read answers is new memory, and what is handed in stays as it is.
func TestReadMemory(t *testing.T) {
	want := someEvents(12, 9, 3)
	p := event.Lay(nil, want)
	before := slices.Clone(p)
	a, _, _ := event.Read(p, 0, 3)
	b, _, _ := event.Read(p, 0, 3)
	clear(a)
	if !bytes.Equal(p, before) || !same(b, want) {
		t.Errorf("the page is %x, the other events %#v", p, b)
	}
	clear(p)
	if !same(b, want) {
		t.Errorf("events hang on the bytes they were read from: %#v", b)
	}
}

// P1: Lay of events of which nothing is promised ends, too.
func TestLayBeyondThePromise(t *testing.T) {
	l := make([]api.Event, 3*api.MaxRows)
	l[0] = api.Event{Offset: math.MaxUint64, Part: math.MinInt, Time: math.MinInt64, Key: strings.Repeat("k", 1<<21), Val: none[3]}
	l[1] = api.Event{Offset: 1 << 63, Part: math.MaxInt, Time: math.MaxInt64}
	checkReadError(t, event.Lay(nil, l), 0, api.MaxParts, api.ErrForm)
	checkReadError(t, event.Lay(nil, l[1:9]), 0, api.MaxParts, api.ErrForm)
}

// fiveOf are the five texts that a body is, told apart from the program.
func fiveOf(body []byte) ([][]byte, bool) {
	var five [][]byte
	for range 5 {
		size, n := binary.Uvarint(body)
		if n <= 0 || n > 1 && body[n-1] == 0 || size > uint64(len(body)-n) {
			return nil, false
		}
		five = append(five, body[n:n+int(size)])
		body = body[n+int(size):]
	}
	return five, len(body) == 0
}

// readOf is what Read is to answer, told apart from the program.
func readOf(p []byte, at, parts int) ([]api.Event, int, api.Errno) {
	kind, body, behind, e := page.Read(p, at)
	if e != api.OK {
		return nil, 0, e
	}
	five, ok := fiveOf(body)
	if !ok || kind != 'e' {
		return nil, 0, api.ErrForm
	}
	offsets, e1 := column.ReadInts(five[0])
	partsOf, e2 := column.ReadInts(five[1])
	times, e3 := column.ReadInts(five[2])
	keys, e4 := column.ReadTexts(five[3])
	vals, e5 := column.ReadReals(five[4])
	n := len(offsets)
	if max(e1, e2, e3, e4, e5) != api.OK || n != len(partsOf) || n != len(times) || n != len(keys) || n != len(vals) {
		return nil, 0, api.ErrForm
	}
	l := make([]api.Event, n)
	for i := range l {
		if partsOf[i] < 0 || partsOf[i] >= int64(parts) || times[i] < -1<<40 || times[i] > 1<<40 || offsets[i] < 0 || offsets[i] >= 1<<40 {
			return nil, 0, api.ErrForm
		}
		l[i] = api.Event{Offset: uint64(offsets[i]), Part: int(partsOf[i]), Time: times[i], Key: keys[i], Val: vals[i]}
	}
	return l, behind, api.OK
}

// checkAnswer holds Read against readOf, twice.
func checkAnswer(t *testing.T, p []byte, at, parts int) {
	t.Helper()
	before := slices.Clone(p)
	want, behind, e := readOf(p, at, parts)
	for range 2 {
		l, n, err := event.Read(p, at, parts)
		if !slices.EqualFunc(l, want, alike) || n != behind || err != e {
			t.Fatalf("Read(%x, %d, %d) = %#v, %d, %d; not %#v, %d, %d", p, at, parts, l, n, err, want, behind, e)
		}
	}
	if !bytes.Equal(p, before) {
		t.Fatalf("%x was changed: %x", before, p)
	}
}

// P1, P2: bytes that are no page of events, or nearly one, with a sum that is right.
func TestReadOfAnyBytes(t *testing.T) {
	r := rand.New(rand.NewPCG(13, 13))
	read := 0
	for range 30000 {
		body := bodyOf(columnsOf(someEvents(r.Uint64(), r.IntN(4), 3), column.Ints)...)
		for range r.IntN(3) {
			body[r.IntN(len(body))] = byte(r.IntN(8))
		}
		if r.IntN(4) == 0 {
			body = slices.Insert(body, r.IntN(len(body)+1), byte(r.Uint32()))
		}
		p := append(pageOf(body), "behind"[:r.IntN(7)]...)
		if r.IntN(20) == 0 {
			p[r.IntN(len(p))] ^= 1 << r.IntN(8)
		}
		checkAnswer(t, p, 0, 1+r.IntN(4))
		checkAnswer(t, body, r.IntN(len(body)+3)-1, 3)
		if _, _, e := event.Read(p, 0, 3); e == api.OK {
			read++
		}
	}
	if read < 1000 {
		t.Errorf("%d pages alone were read", read)
	}
}

func FuzzRead(f *testing.F) {
	f.Add([]byte{}, 0, 0)
	f.Add(bodyOf(columnsOf(someEvents(1, 3, 3), column.Ints)...), 0, 3)
	f.Add(event.Lay([]byte("x"), someEvents(2, 3, 3)), 1, 2)
	f.Fuzz(func(t *testing.T, p []byte, at, parts int) {
		checkAnswer(t, p, at, parts)
		// With a right sum about them the bytes come as far as the columns.
		checkAnswer(t, pageOf(p), 0, parts)
	})
}
