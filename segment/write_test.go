package segment_test

import (
	"bytes"
	"math"
	"slices"
	"strings"
	"testing"

	"headrace/api"
	"headrace/event"
	"headrace/segment"
)

// sizes are numbers of events that a segment has: the least, the greatest, and such as fill a chunk, nearly.
var sizes = []int{1, 2, 63, 64, 65, 127, 128, 129, 130, 191, 192, 193, 500, 1023, api.MaxSeal}

// P7.1: segments that are written out, but for the sums.
func TestWriteWrittenOut(t *testing.T) {
	for _, c := range []struct {
		l     []api.Event
		pages []string
	}{
		{
			[]api.Event{{Offset: 5, Part: 1, Time: -3, Key: "ab", Val: 1.5}},
			[]string{
				"\x03\x00\x01\x0a" + "\x03\x00\x01\x02" + "\x03\x00\x01\x05" + "\x07\x01\x02ab\x00\x01\x00" +
					"\x0b\x00\x01\x80\x80\x80\x80\x80\x80\x80\xf8\x7f",
				"\x02\x01" + "\x01\x00\x05\x05" + "\x05\x05" + "\x02ab\x02ab",
				"\x29\x00\x00\x00",
			},
		},
		{
			[]api.Event{{Offset: 200, Time: -3, Key: "b"}, {Offset: 201, Part: 1, Time: -5, Key: "a"}},
			[]string{
				"\x05\x01\x02\x90\x03\x02" + "\x04\x00\x02\x00\x02" + "\x04\x00\x02\x05\x09" + "\x09\x02\x01a\x01b\x00\x02\x02\x00" +
					"\x04\x00\x02\x00\x00",
				"\x02\x01" + "\x02\x00\xc8\x01\xc9\x01" + "\x09\x05" + "\x01a\x01b",
				"\x28\x00\x00\x00",
			},
		},
	} {
		var want []byte
		for i, body := range c.pages {
			want = append(want, pageOf("eft"[i], []byte(body))...)
		}
		if p, e := segment.Write(c.l, 2); !bytes.Equal(p, want) || e != api.OK {
			t.Errorf("Write(%+v) = %x, %d, not %x", c.l, p, e, want)
		}
	}
}

// P7.1, P2: chunks of MaxChunk events, but the last, a foot, a last page.
func TestWrite(t *testing.T) {
	for _, n := range sizes {
		for parts := 1; parts <= api.MaxParts; parts++ {
			l := eventsFrom(uint64(n%7)*100, n, parts)
			want := segmentOf(l, parts, api.MaxChunk)
			for range 2 {
				if p, e := segment.Write(l, parts); !bytes.Equal(p, want) || e != api.OK {
					t.Errorf("Write of %d events, %d partitions = %d bytes, %d, not %d bytes", n, parts, len(p), e, len(want))
				}
			}
		}
	}
}

// P7.1: the chapter's example.
func TestWriteExample(t *testing.T) {
	var rows []int
	for _, c := range opened(t, written(t, eventsFrom(0, 130, 1), 1)).Chunks() {
		rows = append(rows, c.Rows)
	}
	if !slices.Equal(rows, []int{64, 64, 2}) {
		t.Errorf("chunks of %v rows", rows)
	}
}

// P7.1: the events that take the most bytes make pages that are read.
func TestWriteOfWideEvents(t *testing.T) {
	l := eventsFrom(api.MaxOffset-api.MaxSeal, api.MaxSeal, api.MaxParts)
	for i := range l {
		l[i].Key = strings.Repeat(string(rune('a'+i%26)), api.MaxKey-2) + string([]byte{byte(i), byte(i / 256)})
		l[i].Time = api.MaxTime * int64(1-i%2*2)
		l[i].Val = math.Float64frombits(uint64(i) * 0x0123456789abcd)
	}
	checkScan(t, "wide events", opened(t, written(t, l, api.MaxParts)), all, l, 16)
}

func checkWriteError(t *testing.T, what string, l []api.Event, parts int, want api.Errno) {
	t.Helper()
	before := slices.Clone(l)
	if p, e := segment.Write(l, parts); len(p) != 0 || e != want {
		t.Errorf("%s: Write = %d bytes, error %d; not none, %d", what, len(p), e, want)
	}
	if !same(l, before) {
		t.Errorf("%s: Write has changed its events", what)
	}
}

// P7.1: no events, or a number of partitions that no log has, goes ahead of all else.
func TestWriteErrArg(t *testing.T) {
	tooMany := make([]api.Event, api.MaxSeal+1)
	for _, parts := range []int{math.MinInt, -1, 0, 1, api.MaxParts, api.MaxParts + 1, math.MaxInt} {
		checkWriteError(t, "nil", nil, parts, api.ErrArg)
		checkWriteError(t, "no events", []api.Event{}, parts, api.ErrArg)
		if parts == 1 || parts == api.MaxParts {
			written(t, eventsFrom(3, 9, parts), parts)
			continue
		}
		checkWriteError(t, "a good event", []api.Event{{}}, parts, api.ErrArg)
		checkWriteError(t, "an event without Form", []api.Event{{Part: -1}}, parts, api.ErrArg)
		checkWriteError(t, "too many events, all of one offset", tooMany, parts, api.ErrArg)
	}
}

// P7.1: more than MaxSeal events goes ahead of what they are.
func TestWriteErrLong(t *testing.T) {
	l := eventsFrom(3, api.MaxSeal+1, 2)
	written(t, l[1:], 2)
	written(t, l[:api.MaxSeal], 2)
	checkWriteError(t, "one more", l, 2, api.ErrLong)
	checkWriteError(t, "one more, without Form", l, 1, api.ErrLong)
	checkWriteError(t, "many more, without Form, of one offset", make([]api.Event, 3*api.MaxSeal), 1, api.ErrLong)
	l[0].Offset = 9
	checkWriteError(t, "one more, that doesn't follow", l, 2, api.ErrLong)
}

// unformed are changes that take its Form from an event of a log of three partitions.
func unformed() map[string]func(e *api.Event) {
	return map[string]func(e *api.Event){
		"Part -1":     func(e *api.Event) { e.Part = -1 },
		"Part 3":      func(e *api.Event) { e.Part = 3 },
		"a late Time": func(e *api.Event) { e.Time = api.MaxTime + 1 },
		"early Time":  func(e *api.Event) { e.Time = -api.MaxTime - 1 },
		"a long Key":  func(e *api.Event) { e.Key = strings.Repeat("k", api.MaxKey+1) },
		"an Offset":   func(e *api.Event) { e.Offset = api.MaxOffset },
		"Offset 2^63": func(e *api.Event) { e.Offset = 1 << 63 },
		"all Offset":  func(e *api.Event) { e.Offset = math.MaxUint64 },
	}
}

// P7.1: an event without Form, wherever it stands.
func TestWriteErrForm(t *testing.T) {
	for what, change := range unformed() {
		for _, n := range []int{1, 2, 64, 65, 130} {
			for _, i := range []int{0, n / 2, n - 1} {
				l := eventsFrom(5, n, 3)
				change(&l[i])
				checkWriteError(t, what, l, 3, api.ErrForm)
			}
		}
	}
	written(t, []api.Event{{Part: 2, Time: api.MaxTime, Key: strings.Repeat("k", api.MaxKey)}, {Offset: 1, Time: -api.MaxTime}}, 3)
}

// P7.1: an offset that doesn't follow, wherever it stands; that of the first event has none to follow.
func TestWriteErrGap(t *testing.T) {
	for _, i := range []int{1, 2, 63, 64, 65, 128, 129} {
		for _, offset := range []uint64{0, 99, 100 + uint64(i) - 2, 100 + uint64(i) - 1, 100 + uint64(i) + 1, api.MaxOffset - 1} {
			l := eventsFrom(100, 130, 3)
			l[i].Offset = offset
			checkWriteError(t, "one offset", l, 3, api.ErrGap)
		}
		checkWriteError(t, "one that is missing", slices.Delete(eventsFrom(100, 131, 3), i, i+1), 3, api.ErrGap)
	}
	written(t, eventsFrom(100, 131, 3)[1:], 3)
	written(t, eventsFrom(100, 131, 3)[:130], 3)
}

// P7.1: event by event, and of one event its Form first.
func TestWriteErrorsInOrder(t *testing.T) {
	for what, change := range unformed() {
		for _, at := range [][2]int{{1, 2}, {1, 64}, {63, 64}, {64, 65}, {70, 129}} {
			l := eventsFrom(100, 130, 3)
			change(&l[at[0]])
			l[at[1]].Offset++
			checkWriteError(t, what+" ahead of a gap", l, 3, api.ErrForm)
			l = eventsFrom(100, 130, 3)
			l[at[0]].Offset++
			change(&l[at[1]])
			checkWriteError(t, "a gap ahead of "+what, l, 3, api.ErrGap)
			l = eventsFrom(100, 130, 3)
			l[at[0]].Offset++
			change(&l[at[0]])
			checkWriteError(t, what+" and a gap", l, 3, api.ErrForm)
		}
	}
}

// P7.1: offsets go up to MaxOffset - 1; the one that would follow has no Form.
func TestWriteOfTheLastOffsets(t *testing.T) {
	for _, n := range []int{1, 2, 64, 65, api.MaxSeal} {
		l := eventsFrom(api.MaxOffset-uint64(n), n, 1)
		s := opened(t, written(t, l, 1))
		if from, to := s.Range(); from != api.MaxOffset-uint64(n) || to != api.MaxOffset {
			t.Errorf("%d events: Range = %d, %d", n, from, to)
		}
		checkScan(t, "the last offsets", s, all, l, (n+63)/64)
		if n < api.MaxSeal {
			checkWriteError(t, "one beyond", append(l, api.Event{Offset: api.MaxOffset}), 1, api.ErrForm)
		}
	}
}

// What Write is handed stays as it is, and isn't kept; what it answers is new.
func TestWriteMemory(t *testing.T) {
	room := eventsFrom(0, 200, 2)
	before := slices.Clone(room)
	p := written(t, room[:130], 2)
	want := slices.Clone(p)
	again := written(t, room[:130], 2)
	if !same(room, before) {
		t.Error("Write has changed its events, or those behind them")
	}
	clear(room)
	if !bytes.Equal(p, want) {
		t.Error("the bytes hang on the events that they were laid of")
	}
	clear(p)
	_ = append(p, "more"...)
	if !bytes.Equal(again, want) {
		t.Error("two answers share their room")
	}
}

// P7.1: what is told of a chunk's keys is by their bytes, and of no other events.
func TestWriteTellsKeys(t *testing.T) {
	l := make([]api.Event, 130)
	for i := range l {
		l[i] = api.Event{Offset: uint64(i), Key: []string{"é", "z", "\xff", "Z"}[i%4]}
	}
	for i := 64; i < 128; i++ {
		l[i].Key = ""
	}
	want := []segment.Chunk{
		{Rows: 64, To: 63, First: "Z", Last: "\xff"},
		{Rows: 64, From: 64, To: 127},
		{Rows: 2, From: 128, To: 129, First: "z", Last: "é"},
	}
	want[1].At = len(event.Lay(nil, l[:64]))
	want[2].At = want[1].At + len(event.Lay(nil, l[64:128]))
	if got := opened(t, written(t, l, 1)).Chunks(); !slices.Equal(got, want) {
		t.Errorf("chunks are %+v, not %+v", got, want)
	}
}
