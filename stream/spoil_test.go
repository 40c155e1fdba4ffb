package stream_test

import (
	"encoding/binary"
	"fmt"
	"hash/crc32"
	"math"
	"math/rand/v2"
	"slices"
	"testing"

	"headrace/agg"
	"headrace/api"
	"headrace/batch"
	"headrace/page"
	"headrace/stream"
)

const kind = 'o'

// pageOf is a page, laid apart from the program.
func pageOf(kind byte, body []byte) []byte {
	p := binary.LittleEndian.AppendUint32(nil, uint32(len(body)))
	p = append(append(p, kind), body...)
	return binary.LittleEndian.AppendUint32(p, crc32.ChecksumIEEE(p))
}

// bodyOf are the bytes within the page of what was saved.
func bodyOf(p []byte) []byte {
	return p[5 : len(p)-4]
}

// laidPane is a pane as it stands among an operator's bytes.
type laidPane struct {
	key        string
	start, end int64
	vals       []float64
	rev        uint64
}

// laid is an operator's bytes by their parts, whether or not it is one.
type laid struct {
	c      api.Config
	marks  [][]int64 // of each partition its greatest time, if any
	ended  byte
	spans  [][2]uint64
	late   uint64
	panes  []laidPane
	n      int // how many panes there are said to be beside those that there are
	behind string
}

func (l laid) bytes() []byte {
	p := configBytes(l.c)
	p = binary.AppendUvarint(p, uint64(len(l.marks)))
	for _, m := range l.marks {
		p = append(p, byte(len(m)))
		if len(m) > 0 {
			p = binary.AppendVarint(p, m[0])
		}
	}
	p = append(p, l.ended)
	p = binary.AppendUvarint(p, uint64(len(l.spans)))
	for _, s := range l.spans {
		p = binary.AppendUvarint(binary.AppendUvarint(p, s[0]), s[1])
	}
	p = binary.AppendUvarint(p, l.late)
	p = binary.AppendUvarint(p, uint64(len(l.panes)+l.n))
	for _, x := range l.panes {
		p = append(binary.AppendUvarint(p, uint64(len(x.key))), x.key...)
		p = binary.AppendVarint(binary.AppendVarint(p, x.start), x.end)
		var s agg.State
		for _, v := range x.vals {
			s = s.Add(v)
		}
		p = binary.AppendUvarint(agg.Lay(p, s), x.rev)
	}
	return pageOf(kind, append(p, l.behind...))
}

// some is what is saved of the operator that comes to it in TestSaveWrittenOut.
func some() laid {
	return laid{
		c:     upTo(with(tumbling(10), 5, 1, 2), 3),
		marks: [][]int64{{21}, {30}},
		spans: [][2]uint64{{0, 1}, {3, 2}},
		late:  1,
		panes: []laidPane{
			{"a", 10, 20, []float64{1, 8}, 1},
			{"a", 20, 30, []float64{4}, 0},
			{"c", 30, 40, []float64{2}, 0},
		},
	}
}

// P17.4: what is saved, laid apart from the program.
func TestSaveWrittenOut(t *testing.T) {
	o := newZero(t, some().c)
	for _, e := range []api.Event{
		{Offset: 3, Time: 12, Key: "a", Val: 1},
		{Offset: 4, Part: 1, Time: 30, Key: "c", Val: 2},
		{Offset: 8, Time: 21, Key: "a", Val: 4},
		{Offset: 10, Part: 1, Time: -50, Key: "z", Val: 16},
		{Offset: 9, Part: 1, Time: 15, Key: "a", Val: 8},
	} {
		check(t, "In", o.In(e), api.OK)
	}
	if got, want := string(o.Save()), string(some().bytes()); got != want {
		t.Errorf("saved as %x, not %x", got, want)
	}
	empty := newZero(t, tumbling(10))
	if got, want := string(empty.Save()), string(pageOf(kind, []byte("\x00\x14\x00\x00\x00\x02\x00"+"\x01\x00"+"\x00"+"\x00"+"\x00"+"\x00"))); got != want {
		t.Errorf("saved as %x, not %x", got, want)
	}
	l, e := stream.Load(some().bytes())
	check(t, "Load", e, api.OK)
	mark, ok := l.Mark()
	if mark != 20 || !ok || l.Late() != 1 || l.Ended() || l.Config() != some().c || l.Open() != 3 || len(l.Out()) > 0 {
		t.Errorf("loaded: Mark %d, %v, Late %d, Ended %v, %+v, Open %d", mark, ok, l.Late(), l.Ended(), l.Config(), l.Open())
	}
	for offset := range uint64(13) {
		if l.Seen(offset) != slices.Contains([]uint64{3, 4, 8, 9, 10}, offset) {
			t.Errorf("loaded: Seen(%d) = %v", offset, l.Seen(offset))
		}
	}
	check(t, "End", l.End(), api.OK)
	if got := briefly(l.Out()); got != "+0 a[20 30) 1 4, +0 c[30 40) 1 2" {
		t.Errorf("told behind End: %s", got)
	}
}

// like is some, changed.
func like(change func(l *laid)) laid {
	l := some()
	change(&l)
	return l
}

// ofSessions is an operator's, of sessions, before which nothing was seen.
func ofSessions(panes ...laidPane) laid {
	return laid{c: session(5), marks: [][]int64{{}}, panes: panes}
}

func ofSliding(w ...int64) laid {
	return laid{c: sliding(10, 4), marks: [][]int64{{}}, panes: []laidPane{{"a", w[0], w[1], []float64{1}, 0}}}
}

func ofTumbling(size int64, w ...int64) laid {
	return laid{c: tumbling(size), marks: [][]int64{{}}, panes: []laidPane{{"a", w[0], w[1], []float64{1}, 0}}}
}

// P17.4: bytes that are an operator's, at the edges of what may be.
func TestLoadOfWhatMayBe(t *testing.T) {
	one := []float64{1}
	const most = api.MaxTime
	for i, l := range []laid{
		some(),
		like(func(l *laid) { l.ended = 1 }),
		like(func(l *laid) { l.late = 0 }),
		like(func(l *laid) { l.late = 5 }),
		like(func(l *laid) { l.spans, l.late = nil, 0 }),
		like(func(l *laid) { l.spans = [][2]uint64{{0, api.MaxOffset - 4}} }),
		like(func(l *laid) { l.spans = [][2]uint64{{api.MaxOffset - 4, 0}} }),
		like(func(l *laid) { l.spans = [][2]uint64{{1, 0}, {1, 0}} }),
		like(func(l *laid) { l.panes = nil }),
		like(func(l *laid) { l.panes[0].rev = 0 }),
		like(func(l *laid) { l.ended, l.panes[1].vals, l.panes[1].rev = 1, []float64{1, 2, 3}, 2 }),
		like(func(l *laid) { l.panes[0].key = "" }),
		like(func(l *laid) { l.panes[2].key = longest }),
		like(func(l *laid) { l.marks[0][0] = 26 }), // the mark is 25
		like(func(l *laid) { l.marks = [][]int64{{most}, {21}} }),
		like(func(l *laid) { l.marks, l.panes[0].rev = [][]int64{{-most}, {most}}, 0 }),
		like(func(l *laid) { l.marks, l.panes[0].rev = [][]int64{{}, {most}}, 0 }),
		like(func(l *laid) { l.c.Cut, l.spans, l.late = api.MaxOffset, nil, 0 }),
		ofSessions(laidPane{"a", 0, 5, one, 0}, laidPane{"a", 5, 10, one, 0}, laidPane{"b", 3, 20, one, 0}),
		ofSessions(laidPane{"a", -most, -most + 5, one, 0}, laidPane{"a", most, most + 5, one, 0}),
		ofSessions(laidPane{"a", -most, most + 5, one, 0}),
		ofSliding(4, 14), ofSliding(-8, 2), ofSliding(-most-8, -most+2), ofSliding(-most, -most+10), ofSliding(most, most+10), ofSliding(most-4, most+6),
		ofTumbling(1, most, most+1), ofTumbling(1, -most, -most+1), ofTumbling(1<<30, most, most+1<<30), ofTumbling(10, 0, 10),
	} {
		p := l.bytes()
		for range 2 {
			o, e := stream.Load(p)
			check(t, fmt.Sprintf("%d: %+v", i, l), e, api.OK)
			if string(o.Save()) != string(p) {
				t.Errorf("%d: %+v: %x is saved as %x", i, l, p, o.Save())
			}
		}
	}
}

// P17.4: bytes that are no operator's, each for one thing.
func TestLoadOfWhatCannotBe(t *testing.T) {
	one := []float64{1}
	const most = api.MaxTime
	l := []laid{
		like(func(l *laid) { l.c.Parts = 1 }),
		like(func(l *laid) { l.c.Parts = 3 }),
		like(func(l *laid) { l.marks = nil }),
		like(func(l *laid) { l.marks = l.marks[:1] }),
		like(func(l *laid) { l.marks = append(l.marks, []int64{30}) }),
		like(func(l *laid) { l.marks = slices.Repeat(l.marks, 5) }),
		like(func(l *laid) { l.marks[1] = []int64{0, 0} }),
		like(func(l *laid) { l.marks[1][0] = most + 1 }),
		like(func(l *laid) { l.marks[1][0], l.panes[0].rev = -most-1, 0 }),
		like(func(l *laid) { l.marks[1][0], l.panes[0].rev = math.MinInt64, 0 }),
		like(func(l *laid) { l.marks[1][0] = math.MaxInt64 }),
		like(func(l *laid) { l.ended = 2 }),
		like(func(l *laid) { l.spans[1][0] = 0 }),
		like(func(l *laid) { l.spans[0][0] = api.MaxOffset - 3 }),
		like(func(l *laid) { l.spans[0][0] = math.MaxUint64 }),
		like(func(l *laid) { l.spans[1][1] = api.MaxOffset - 8 }),
		like(func(l *laid) { l.spans[1][1] = math.MaxUint64 }),
		like(func(l *laid) { l.spans = [][2]uint64{{0, api.MaxOffset - 4}, {1, 0}} }),
		like(func(l *laid) { l.spans = nil }),
		like(func(l *laid) { l.late = 6 }),
		like(func(l *laid) { l.late = math.MaxUint64 }),
		like(func(l *laid) { l.n = 1 }),
		like(func(l *laid) { l.n = -1 }),
		like(func(l *laid) { l.n = math.MaxInt - 3 }),
		like(func(l *laid) { l.behind = "\x00" }),
		like(func(l *laid) { l.panes[0], l.panes[1] = l.panes[1], l.panes[0] }),
		like(func(l *laid) { l.panes[1], l.panes[2] = l.panes[2], l.panes[1] }),
		like(func(l *laid) { l.panes[0].key = "b" }),
		like(func(l *laid) { l.panes[1] = l.panes[0] }),
		like(func(l *laid) { l.panes[2].key = longest + "k" }),
		like(func(l *laid) { l.panes[0].vals, l.panes[0].rev = nil, 0 }),
		like(func(l *laid) { l.panes[0].rev = 2 }),
		like(func(l *laid) { l.panes[0].rev = math.MaxUint64 }),
		like(func(l *laid) { l.panes[1].rev = 1 }),
		like(func(l *laid) { l.panes[2].vals, l.panes[2].rev = []float64{1, 2}, 1 }),
		like(func(l *laid) { l.marks[0][0] = 27 }), // the mark is 26, at which [10, 20) is dead
		like(func(l *laid) { l.marks[0][0], l.ended = 27, 1 }),
		like(func(l *laid) { l.panes[0].start, l.panes[0].end = 11, 21 }),
		like(func(l *laid) { l.panes[0].end = 21 }),
		like(func(l *laid) { l.panes[0].end = 30 }),
		like(func(l *laid) { l.panes[0].start = 0 }),
		like(func(l *laid) { l.panes[0].start, l.panes[0].end = 20, 10 }),
		like(func(l *laid) { l.panes[0].start, l.panes[0].end = math.MinInt64, math.MaxInt64 }),
		like(func(l *laid) { l.panes[0].start, l.panes[0].end = math.MaxInt64, math.MinInt64 }),
		ofSessions(laidPane{"a", 0, 5, one, 0}, laidPane{"a", 4, 9, one, 0}),
		ofSessions(laidPane{"a", 0, 9, one, 0}, laidPane{"a", 1, 6, one, 0}),
		ofSessions(laidPane{"a", 0, 4, one, 0}),
		ofSessions(laidPane{"a", 0, 0, one, 0}),
		ofSessions(laidPane{"a", 5, 0, one, 0}),
		ofSessions(laidPane{"a", -most - 1, 0, one, 0}),
		ofSessions(laidPane{"a", 0, most + 6, one, 0}),
		ofSessions(laidPane{"a", math.MinInt64, math.MaxInt64, one, 0}),
		ofSessions(laidPane{"a", 0, math.MinInt64, one, 0}),
		ofSessions(laidPane{"a", math.MaxInt64, math.MinInt64 + 2, one, 0}),
		ofSliding(5, 15), ofSliding(4, 13), ofSliding(4, 18), ofSliding(-most-12, -most-2), ofSliding(most+4, most+14), ofSliding(math.MinInt64, math.MinInt64+10),
		ofTumbling(1, most+1, most+2), ofTumbling(1, -most-1, -most), ofTumbling(10, 5, 15), ofTumbling(10, 0, 20), ofTumbling(10, 10, 0), ofTumbling(10, 0, 0),
	}
	for _, c := range formless() {
		l = append(l, like(func(l *laid) { l.c = c }))
	}
	for i, x := range l {
		if o, e := stream.Load(x.bytes()); o != nil || e != api.ErrForm {
			t.Errorf("%d: %+v: loaded %v, error %d", i, x, o != nil, e)
		}
	}
}

// someSaved are operators' bytes, of all kinds.
func someSaved(t *testing.T, n int) [][]byte {
	t.Helper()
	l := [][]byte{newZero(t, tumbling(10)).Save(), some().bytes()}
	for seed := range uint64(n) {
		r := rand.New(rand.NewPCG(27, seed))
		c := anyConfig(r)
		log := someLog(r, 40, c.Parts)
		o, m := newBoth(t, c, log[:10])
		for _, e := range someOrder(r, log[10:10+r.IntN(30)]) {
			check(t, "In", o.In(e), m.in(e))
		}
		if r.IntN(4) == 0 {
			check(t, "End", o.End(), api.OK)
		}
		l = append(l, o.Save())
	}
	return l
}

// checkRefused looks that p isn't loaded, and isn't changed.
func checkRefused(t *testing.T, what string, p []byte, want api.Errno) {
	t.Helper()
	before := string(p)
	if o, e := stream.Load(p); o != nil || e != want {
		t.Fatalf("%s: %x is loaded: %v, error %d, not %d", what, p, o != nil, e, want)
	}
	if string(p) != before {
		t.Fatalf("%s: %x was changed: %x", what, before, p)
	}
}

// P17.4: no beginning of what was saved is loaded, and nothing with bytes behind it or ahead.
func TestLoadOfPieces(t *testing.T) {
	checkRefused(t, "nothing", nil, api.ErrForm)
	for _, p := range someSaved(t, 12) {
		for n := range p {
			checkRefused(t, "a beginning", p[:n:n], api.ErrForm)
		}
		for n := 1; n < 30; n++ {
			checkRefused(t, "noughts behind", slices.Concat(p, make([]byte, n)), api.ErrForm)
		}
		checkRefused(t, "itself behind", slices.Concat(p, p), api.ErrForm)
		checkRefused(t, "an empty page behind", slices.Concat(p, pageOf(kind, nil)), api.ErrForm)
		checkRefused(t, "an empty page ahead", slices.Concat(pageOf(kind, nil), p), api.ErrForm)
		checkRefused(t, "a page of another kind behind", slices.Concat(p, pageOf('x', []byte("body"))), api.ErrForm)
		checkRefused(t, "spoilt bytes behind", slices.Concat(p, p[:len(p)-1], []byte{p[len(p)-1] ^ 1}), api.ErrForm)
		// Within the page there may be too few bytes, and too many, too.
		body := bodyOf(p)
		for n := range body {
			checkRefused(t, "a beginning within", pageOf(kind, body[:n]), api.ErrForm)
		}
		for _, b := range []byte{0, 1, 255} {
			checkRefused(t, "a byte more within", pageOf(kind, append(slices.Clone(body), b)), api.ErrForm)
		}
	}
}

// P17.4: pages of all other kinds.
func TestLoadOfOtherKinds(t *testing.T) {
	for _, p := range someSaved(t, 5) {
		for k := range 256 {
			if k != kind {
				checkRefused(t, "another kind", pageOf(byte(k), bodyOf(p)), api.ErrForm)
			}
		}
	}
}

// P17.4, P7: a turned bit, and bits within 32, are told as page tells them.
func TestLoadOfTurnedBits(t *testing.T) {
	r := rand.New(rand.NewPCG(17, 6))
	for _, p := range someSaved(t, 6) {
		for bit := range 8 * len(p) {
			q := slices.Clone(p)
			q[bit/8] ^= 1 << (bit % 8)
			_, _, _, want := page.Read(q, 0)
			if want == api.OK || bit >= 32 && want != api.ErrSum {
				t.Fatalf("page's error is %d", want)
			}
			checkRefused(t, "a turned bit", q, want)
		}
		for range 1000 {
			q := slices.Clone(p)
			first := 32 + r.IntN(8*len(p)-32)
			for turned := 0; turned == 0 || r.IntN(6) > 0; turned++ {
				bit := min(first+r.IntN(32), 8*len(p)-1)
				q[bit/8] ^= 1 << (bit % 8)
			}
			if string(q) != string(p) {
				checkRefused(t, "turned bits", q, api.ErrSum)
			}
		}
	}
}

// checkAny loads any bytes; what is loaded is saved as these, and goes on as any other.
func checkAny(t *testing.T, p []byte) bool {
	t.Helper()
	before := string(p)
	o, e := stream.Load(p)
	if string(p) != before {
		t.Fatalf("%x was changed: %x", before, p)
	}
	if _, e2 := stream.Load(p); e2 != e || (o != nil) != (e == api.OK) {
		t.Fatalf("%x is loaded: %v, errors %d, %d", p, o != nil, e, e2)
	}
	if e != api.OK {
		if _, _, _, want := page.Read(p, 0); want != api.OK && e != want || want == api.OK && e != api.ErrForm {
			t.Fatalf("%x: error %d, page's is %d", p, e, want)
		}
		return false
	}
	if string(o.Save()) != before {
		t.Fatalf("%x is saved as %x", p, o.Save())
	}
	c, atEnd := o.Config(), api.OK
	if o.Ended() {
		atEnd = api.ErrState
	}
	for i := range 20 {
		ev := api.Event{Offset: c.Cut + uint64(i), Part: i % c.Parts, Time: int64(i*i) - 50, Key: "a", Val: 1}
		seen, ended, late := o.Seen(ev.Offset), o.Ended(), o.Late()
		want := api.OK
		switch {
		case ended:
			want = api.ErrState
		case ev.Offset >= api.MaxOffset:
			want = api.ErrForm
		case seen:
			want = api.ErrTwice
		}
		check(t, "In", o.In(ev), want)
		if want == api.OK && (!o.Seen(ev.Offset) || o.Late() > late+1) {
			t.Fatalf("%x: %+v hasn't come", p, ev)
		}
		loaded(t, o)
	}
	check(t, "End", o.End(), atEnd)
	o.Out()
	loaded(t, o)
	return true
}

// P1, P17.4: bytes changed within a page whose sum is right.
func TestLoadOfSpoiltBodies(t *testing.T) {
	r := rand.New(rand.NewPCG(17, 7))
	loaded := 0
	for _, p := range someSaved(t, 30) {
		body := bodyOf(p)
		for range 100 {
			q := slices.Clone(body)
			for range 1 + r.IntN(3) {
				at := r.IntN(len(q))
				switch r.IntN(4) {
				case 0:
					q[at] ^= 1 << r.IntN(8)
				case 1:
					q[at] = byte(r.IntN(256))
				case 2:
					q = slices.Insert(q, at, byte(r.IntN(3)))
				case 3:
					q = slices.Delete(q, at, min(len(q)-1, at+1))
				}
			}
			if checkAny(t, pageOf(kind, q)) {
				loaded++
			}
			checkAny(t, slices.Concat(p[:5], q, p[len(p)-4:]))
		}
	}
	if loaded < 50 {
		t.Errorf("%d spoilt ones are loaded: too few", loaded)
	}
}

// P1: any bytes, alone and within a page.
func TestLoadOfAnyBytes(t *testing.T) {
	r := rand.New(rand.NewPCG(17, 8))
	for range 20000 {
		p := make([]byte, r.IntN(60))
		for i := range p {
			p[i] = byte(r.IntN(1 + r.IntN(256)))
		}
		checkAny(t, p)
		checkAny(t, pageOf(kind, p))
	}
}

// P1: bytes of all kinds are loaded, or refused.
func FuzzLoad(f *testing.F) {
	f.Add(bodyOf(some().bytes()))
	for _, c := range []api.Config{tumbling(10), sliding(10, 4), session(5)} {
		o, _ := stream.New(with(c, 3, 1, 2), batch.Boot{})
		f.Add(bodyOf(o.Save()))
		for i := range 12 {
			o.In(api.Event{Offset: uint64(i * 2), Part: i % 2, Time: int64(i * 3), Key: "ab"[:i%3], Val: float64(i)})
		}
		f.Add(bodyOf(o.Save()))
		o.End()
		f.Add(bodyOf(o.Save()))
	}
	f.Fuzz(func(t *testing.T, body []byte) {
		checkAny(t, body)
		checkAny(t, pageOf(kind, body))
	})
}

// FuzzIn goes through events by bytes, and holds an operator against the model.
func FuzzIn(f *testing.F) {
	f.Add(byte(0), byte(10), byte(1), byte(0), byte(3), []byte("events that come"))
	f.Add(byte(1), byte(9), byte(3), byte(5), byte(0), []byte("some are late \x00\x00\x00\x00\x00\x00"))
	f.Add(byte(2), byte(5), byte(4), byte(2), byte(1), []byte("\x01\x09\x02\x05\x04\x30\x03"))
	f.Fuzz(func(t *testing.T, k, size, step, late, skew byte, events []byte) {
		c := api.Config{Kind: k, Size: int64(size), Step: int64(step), Late: int64(int8(late)), Skew: int64(skew), Parts: 1 + int(skew%2)}
		o, e := stream.New(c, batch.Boot{})
		if e != api.OK {
			return
		}
		m := newModel(c, nil)
		for i, b := range events[:min(len(events), 60)] {
			ev := api.Event{Offset: uint64(i % 50), Part: int(b>>6) % c.Parts, Time: int64(b % 64), Key: "kk"[:b>>7], Val: float64(i)}
			check(t, ev, o.In(ev), m.in(ev))
			checkOut(t, ev, o, m)
			checkState(t, ev, o, m)
			if b%8 == 0 {
				o = loaded(t, o)
			}
		}
		check(t, "End", o.End(), m.end())
		checkOut(t, "End", o, m)
	})
}
