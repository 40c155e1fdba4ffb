package segment_test

import (
	"math"
	"slices"
	"strings"
	"testing"

	"headrace/api"
	"headrace/event"
	"headrace/segment"
)

// P7.3: offsets From on, below To; times from Low to High; nothing else plays a part.
func TestWants(t *testing.T) {
	for _, c := range []struct {
		f      segment.Filter
		offset uint64
		time   int64
		want   bool
	}{
		{segment.Filter{From: 3, To: 5, Low: -2, High: 2}, 3, 0, true},
		{segment.Filter{From: 3, To: 5, Low: -2, High: 2}, 4, -2, true},
		{segment.Filter{From: 3, To: 5, Low: -2, High: 2}, 4, 2, true},
		{segment.Filter{From: 3, To: 5, Low: -2, High: 2}, 2, 0, false},
		{segment.Filter{From: 3, To: 5, Low: -2, High: 2}, 5, 0, false},
		{segment.Filter{From: 3, To: 5, Low: -2, High: 2}, 3, -3, false},
		{segment.Filter{From: 3, To: 5, Low: -2, High: 2}, 3, 3, false},
		{segment.Filter{From: 3, To: 3, Low: -2, High: 2}, 3, 0, false},
		{segment.Filter{From: 3, To: 4, Low: 2, High: 2}, 3, 2, true},
		{segment.Filter{From: 5, To: 3, Low: -2, High: 2}, 4, 0, false},
		{segment.Filter{From: 3, To: 5, Low: 2, High: -2}, 4, 0, false},
		{segment.Filter{}, 0, 0, false},
		{segment.Filter{To: 1}, 0, 0, true},
		{all, 0, math.MinInt64, true},
		{all, math.MaxUint64 - 1, math.MaxInt64, true},
		{all, math.MaxUint64, 0, false},
		{segment.Filter{From: 1 << 63, To: math.MaxUint64, Low: math.MinInt64, High: math.MinInt64}, 1 << 63, math.MinInt64, true},
		{segment.Filter{From: 1 << 63, To: math.MaxUint64, Low: math.MinInt64, High: math.MinInt64}, 1, math.MinInt64, false},
	} {
		for _, e := range []api.Event{{}, {Part: -1, Key: strings.Repeat("k", 100), Val: math.NaN()}} {
			e.Offset, e.Time = c.offset, c.time
			if got := c.f.Wants(e); got != c.want {
				t.Errorf("%+v wants %+v: %v", c.f, e, got)
			}
		}
	}
}

// P7.3: of all filters and chunks of small numbers: May is true where an offset and a time are in both.
func TestMay(t *testing.T) {
	const most = 4
	var filters []segment.Filter
	var chunks []segment.Chunk
	for n := range most * most * most * most {
		a, b, c, d := n%most, n/most%most, n/most/most%most, n/most/most/most
		filters = append(filters, segment.Filter{From: uint64(a), To: uint64(b), Low: int64(c) - 2, High: int64(d) - 2})
		chunks = append(chunks, segment.Chunk{From: uint64(a), To: uint64(b), Low: int64(c) - 2, High: int64(d) - 2})
	}
	for _, f := range filters {
		for _, c := range chunks {
			offset, time := false, false
			for n := range most {
				x, y := uint64(n), int64(n)-2
				offset = offset || f.From <= x && x < f.To && c.From <= x && x <= c.To
				time = time || f.Low <= y && y <= f.High && c.Low <= y && y <= c.High
			}
			if got := f.May(c); got != (offset && time) {
				t.Errorf("%+v may have some of %+v: %v", f, c, got)
			}
		}
	}
}

// P7.3: May at the ends of all numbers; rows, places and keys play no part.
func TestMayAtTheEnds(t *testing.T) {
	widest := segment.Chunk{To: math.MaxUint64, Low: math.MinInt64, High: math.MaxInt64}
	last := segment.Chunk{Rows: -1, At: -1, From: math.MaxUint64, To: math.MaxUint64, First: "z", Last: "a"}
	for _, c := range []struct {
		f    segment.Filter
		c    segment.Chunk
		want bool
	}{
		{all, widest, true},
		{all, last, false},
		{all, segment.Chunk{From: math.MaxUint64 - 1, To: math.MaxUint64}, true},
		{all, segment.Chunk{Rows: -1, At: -1, First: "z", Last: "a"}, true},
		{segment.Filter{}, widest, false},
		{segment.Filter{From: math.MaxUint64, To: math.MaxUint64}, widest, false},
		{segment.Filter{From: math.MaxUint64 - 1, To: math.MaxUint64}, widest, true},
		{segment.Filter{From: math.MaxUint64, To: 0}, widest, false},
		{segment.Filter{To: 1, Low: math.MinInt64, High: math.MinInt64}, widest, true},
		{segment.Filter{To: 1, Low: math.MaxInt64, High: math.MaxInt64}, widest, true},
		{segment.Filter{To: 1, Low: math.MaxInt64, High: math.MinInt64}, widest, false},
	} {
		if got := c.f.May(c.c); got != c.want {
			t.Errorf("%+v may have some of %+v: %v", c.f, c.c, got)
		}
	}
}

// checkModel holds a Scan against that of the model, twice.
func checkModel(t *testing.T, s *segment.Segment, m *model, f segment.Filter) {
	t.Helper()
	want, chunks, e := m.scan(f)
	for range 2 {
		if e == api.OK {
			checkScan(t, "the model", s, f, want, chunks)
		} else {
			checkScanError(t, "the model", s, f, e)
		}
	}
}

// P7.3, P2: filters that begin and end at, ahead of, and behind each chunk's first and last offset and time.
func TestScan(t *testing.T) {
	for _, from := range []uint64{0, 1000, api.MaxOffset - 150} {
		p := written(t, eventsFrom(from, 150, 3), 3)
		s := opened(t, p)
		m, _ := modelOf(p)
		offsets := []uint64{0, from + 75, math.MaxUint64}
		times := []int64{math.MinInt64, 0, math.MaxInt64}
		for _, c := range s.Chunks() {
			offsets = append(offsets, c.From-1, c.From, c.From+1, c.To, c.To+1)
			times = append(times, c.Low-1, c.Low, c.Low+1, c.High-1, c.High, c.High+1)
		}
		for _, x := range offsets {
			for _, y := range offsets {
				checkModel(t, s, m, segment.Filter{From: x, To: y, Low: math.MinInt64, High: math.MaxInt64})
				checkModel(t, s, m, segment.Filter{From: x, To: y, Low: -3, High: 8})
			}
		}
		for _, x := range times {
			for _, y := range times {
				checkModel(t, s, m, segment.Filter{To: math.MaxUint64, Low: x, High: y})
				checkModel(t, s, m, segment.Filter{From: from + 60, To: from + 130, Low: x, High: y})
			}
		}
	}
}

// P7.3: how many chunks are read: those that may have some, though they may have none.
func TestScanCountsChunks(t *testing.T) {
	l := make([]api.Event, 200)
	for i := range l {
		// Each chunk's times are 0 and 10, and those of the last one 100 too.
		l[i] = api.Event{Offset: 500 + uint64(i), Time: int64(i%2) * 10}
	}
	l[199].Time = 100
	s := opened(t, written(t, l, 1))
	for _, c := range []struct {
		f    segment.Filter
		want []api.Event
		n    int
	}{
		{segment.Filter{}, nil, 0},
		{all, l, 4},
		{segment.Filter{From: 500, To: 700, High: 100}, l, 4},
		{segment.Filter{From: 0, To: 500, High: 100}, nil, 0},
		{segment.Filter{From: 700, To: 800, High: 100}, nil, 0},
		{segment.Filter{From: 500, To: 501, High: 100}, l[:1], 1},
		{segment.Filter{From: 500, To: 564, High: 100}, l[:64], 1},
		{segment.Filter{From: 500, To: 565, High: 100}, l[:65], 2},
		{segment.Filter{From: 563, To: 565, High: 100}, l[63:65], 2},
		{segment.Filter{From: 564, To: 628, High: 100}, l[64:128], 1},
		{segment.Filter{From: 691, To: 692, High: 100}, l[191:192], 1},
		{segment.Filter{From: 692, To: 693, High: 100}, l[192:193], 1},
		{segment.Filter{From: 600, To: 600, High: 100}, nil, 0},
		{segment.Filter{From: 700, To: 500, High: 100}, nil, 0},
		{segment.Filter{From: 0, To: 1000, Low: 3, High: 7}, nil, 4},
		{segment.Filter{From: 0, To: 1000, Low: 7, High: 3}, nil, 0},
		{segment.Filter{From: 0, To: 1000, Low: -9, High: -1}, nil, 0},
		{segment.Filter{From: 0, To: 1000, Low: 11, High: 99}, nil, 1},
		{segment.Filter{From: 0, To: 1000, Low: 11, High: 100}, l[199:], 1},
		{segment.Filter{From: 0, To: 1000, Low: 101, High: 999}, nil, 0},
		{segment.Filter{From: 0, To: 1000, Low: 100, High: 100}, l[199:], 1},
		{segment.Filter{From: 600, To: 602, Low: 10, High: 10}, l[101:102], 1},
	} {
		checkScan(t, "counted", s, c.f, c.want, c.n)
	}
}

// P7.3: what is no number is read as the one.
func TestScanOfNoNumbers(t *testing.T) {
	p := written(t, []api.Event{{Val: math.NaN()}, {Offset: 1, Val: -noNumber}, {Offset: 2, Val: math.Float64frombits(math.MaxUint64)}}, 1)
	checkScan(t, "no numbers", opened(t, p), all, []api.Event{{Val: noNumber}, {Offset: 1, Val: noNumber}, {Offset: 2, Val: noNumber}}, 1)
}

// P7.3: a page that doesn't end where the next one begins, or the foot.
func TestScanOfPagesThatEndElsewhere(t *testing.T) {
	l := eventsFrom(0, 12, 2)
	pages, chunks := pagesOf(l, 4)
	chunk := func(i int) segment.Filter {
		f := all
		f.From, f.To = chunks[i].From, chunks[i].To+1
		return f
	}
	for i := range chunks {
		end := len(pages)
		if i < 2 {
			end = chunks[i+1].At
		}
		for _, more := range [][]byte{{0}, []byte("between"), pages[:chunks[1].At]} {
			moved := slices.Clone(chunks)
			for k := i + 1; k < 3; k++ {
				moved[k].At += len(more)
			}
			s := opened(t, bytesOf(slices.Insert(slices.Clone(pages), end, more...), footOf(2, moved)))
			checkScanError(t, "all, bytes between", s, all, api.ErrForm)
			for k := range chunks {
				if k == i {
					checkScanError(t, "bytes between", s, chunk(k), api.ErrForm)
				} else {
					checkScan(t, "bytes behind another chunk", s, chunk(k), l[4*k:4*k+4], 1)
				}
			}
		}
	}
	// Each page is told to stand where it doesn't.
	moved := slices.Clone(chunks)
	moved[1].At--
	s := opened(t, bytesOf(pages, footOf(2, moved)))
	checkScanError(t, "the next one begins ahead of its end", s, chunk(0), api.ErrForm)
	_, _, want := event.Read(pages, moved[1].At, 2)
	checkScanError(t, "no page begins there", s, chunk(1), want)
	checkScan(t, "the last one is as it should be", s, chunk(2), l[8:], 1)
}

// P7.3: events that aren't as the foot says, in each thing that it tells.
func TestScanOfOtherEvents(t *testing.T) {
	l := eventsFrom(100, 12, 2)
	for i := range l {
		l[i].Key, l[i].Time = []string{"b", "d", "c", "c"}[i%4], int64(i%4)
	}
	pages, chunks := pagesOf(l, 4)
	checkScan(t, "as the foot says", opened(t, bytesOf(pages, footOf(2, chunks))), all, l, 3)
	for what, change := range map[string]func(c *segment.Chunk){
		"Low less":      func(c *segment.Chunk) { c.Low-- },
		"Low more":      func(c *segment.Chunk) { c.Low++ },
		"Low above":     func(c *segment.Chunk) { c.Low, c.High = c.High, c.High+1 },
		"High less":     func(c *segment.Chunk) { c.High-- },
		"High more":     func(c *segment.Chunk) { c.High++ },
		"all times":     func(c *segment.Chunk) { c.Low, c.High = math.MinInt64, math.MaxInt64 },
		"First less":    func(c *segment.Chunk) { c.First = "a" },
		"First more":    func(c *segment.Chunk) { c.First = "bb" },
		"no First":      func(c *segment.Chunk) { c.First = "" },
		"Last less":     func(c *segment.Chunk) { c.Last = "c" },
		"Last more":     func(c *segment.Chunk) { c.Last = "d\x00" },
		"keys in turns": func(c *segment.Chunk) { c.First, c.Last = c.Last, c.First },
	} {
		for i := range chunks {
			other := slices.Clone(chunks)
			change(&other[i])
			s := opened(t, bytesOf(pages, footOf(2, other)))
			checkScanError(t, what, s, all, api.ErrForm)
			for k := range chunks {
				f := all
				f.From, f.To = chunks[k].From, chunks[k].To+1
				if k == i {
					checkScanError(t, what, s, f, api.ErrForm)
				} else {
					checkScan(t, what+", of another chunk", s, f, l[4*k:4*k+4], 1)
				}
			}
		}
	}
	for what, other := range map[string][]segment.Chunk{
		"fewer rows at first": {{Rows: 3, From: 101, To: 103, Low: 1, High: 3, First: "c", Last: "d"}},
		"fewer rows at last":  {{Rows: 3, From: 100, To: 102, Low: 0, High: 2, First: "b", Last: "d"}},
		"more rows":           {{Rows: 5, From: 100, To: 104, Low: 0, High: 3, First: "b", Last: "d"}},
		"offsets of others":   {{Rows: 4, From: 101, To: 104, Low: 0, High: 3, First: "b", Last: "d"}},
	} {
		checkScanError(t, what, opened(t, bytesOf(pages[:chunks[1].At], footOf(2, other))), all, api.ErrForm)
	}
}

// P7.3: events whose offsets don't follow one another, though the least, the greatest and their number are right.
func TestScanOfOffsetsThatDontFollow(t *testing.T) {
	for _, offsets := range [][]uint64{{0, 2, 1, 3}, {3, 2, 1, 0}, {0, 1, 1, 3}, {1, 0, 3, 2}, {0, 3, 0, 3}} {
		l := eventsFrom(0, 4, 1)
		for i := range l {
			l[i].Offset = offsets[i]
		}
		s := opened(t, segmentOf(l, 1, 4))
		checkScanError(t, "offsets in turns", s, all, api.ErrForm)
	}
}

// P7.3: pages of no events, of another kind, of another log: event.Read's errors, and the foot's.
func TestScanOfOtherPages(t *testing.T) {
	l := eventsFrom(0, 4, 3)
	l[2].Part = 2
	pages, chunks := pagesOf(l, 4)
	foot := footOf(3, chunks)
	checkScan(t, "three partitions", opened(t, bytesOf(pages, foot)), all, l, 1)
	checkScanError(t, "two partitions", opened(t, bytesOf(pages, footOf(2, chunks))), all, api.ErrForm)
	checkScanError(t, "no events", opened(t, bytesOf(event.Lay(nil, nil), foot)), all, api.ErrForm)
	checkScanError(t, "another kind", opened(t, bytesOf(pageOf('x', pages[5:len(pages)-4]), foot)), all, api.ErrForm)
	checkScanError(t, "no columns", opened(t, bytesOf(pageOf('e', []byte("none")), foot)), all, api.ErrForm)
	checkScanError(t, "a wrong sum", opened(t, bytesOf(turned(pages, 100), foot)), all, api.ErrSum)
	for n := 1; n < len(pages); n++ {
		// What is missing isn't there, but the foot's bytes are in sight.
		p := bytesOf(pages[:n], foot)
		_, _, want := event.Read(p, 0, 3)
		if want == api.OK {
			t.Fatalf("%d of %d bytes are a page", n, len(pages))
		}
		checkScanError(t, "cut short", opened(t, p), all, want)
	}
}

// P7.3: the first error is that of the first chunk that is read and is none; chunks that aren't wanted aren't read.
func TestScanErrorsInOrder(t *testing.T) {
	l := eventsFrom(0, 12, 2)
	pages, chunks := pagesOf(l, 4)
	within := func(from, to uint64) segment.Filter {
		return segment.Filter{From: from, To: to, Low: math.MinInt64, High: math.MaxInt64}
	}
	chunks[0].Last += "\x00"
	s := opened(t, bytesOf(turned(pages, 8*chunks[1].At+60), footOf(2, chunks)))
	checkScanError(t, "first Form, then Sum", s, all, api.ErrForm)
	checkScanError(t, "Form alone", s, within(0, 4), api.ErrForm)
	checkScanError(t, "Sum alone", s, within(4, 8), api.ErrSum)
	checkScanError(t, "Sum, then none", s, within(7, 12), api.ErrSum)
	checkScan(t, "none", s, within(8, 12), l[8:], 1)
	checkScan(t, "nothing wanted", s, within(4, 4), nil, 0)
	_, chunks = pagesOf(l, 4)
	chunks[1].Last += "\x00"
	s = opened(t, bytesOf(turned(pages, 60), footOf(2, chunks)))
	checkScanError(t, "first Sum, then Form", s, all, api.ErrSum)
	checkScanError(t, "Form alone", s, within(4, 8), api.ErrForm)
	// Of one page its sum goes ahead of what the foot says.
	s = opened(t, bytesOf(turned(pages, 8*chunks[1].At+60), footOf(2, chunks)))
	checkScanError(t, "Sum and Form", s, all, api.ErrSum)
}

// What Scan answers is new memory.
func TestScanMemory(t *testing.T) {
	l := eventsFrom(0, 130, 2)
	s := opened(t, written(t, l, 2))
	a, _, _ := s.Scan(all)
	b, _, _ := s.Scan(all)
	clear(a)
	_ = append(a[:0], api.Event{Key: "x"})
	if !same(b, l) {
		t.Error("two answers share their room")
	}
	checkScan(t, "again", s, all, l, 3)
}
