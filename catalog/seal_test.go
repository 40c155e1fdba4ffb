package catalog_test

import (
	"fmt"
	"slices"
	"testing"

	"headrace/api"
	"headrace/catalog"
	"headrace/files"
	"headrace/segment"
)

// sizes are numbers of events of several segments.
var sizes = [][]int{{1}, {1, 1}, {64, 65, 63}, {10, 1, 130, 2, 5}, {api.MaxSeal, 1, api.MaxSeal}}

// P8.1, P8.2: events are a segment more, behind the others, in files as the chapter lays them out.
func TestSeal(t *testing.T) {
	for _, l := range sizes {
		for _, parts := range []int{1, 2, api.MaxParts} {
			s := newStore(t, bigRoom)
			m := model{parts: parts}
			c := opened(t, s, parts)
			for _, x := range stretches(parts, l...) {
				check(t, "Seal", c.Seal(x), api.OK)
				m = m.sealed(x)
				checkAll(t, fmt.Sprintf("%d segments", len(m.segs)), s, c, m)
			}
		}
	}
}

// P8.1: the file cat, written out.
func TestSealWrittenOut(t *testing.T) {
	s := newStore(t, bigRoom)
	c := opened(t, s, 3)
	check(t, "Seal", c.Seal([]api.Event{{Offset: 0, Time: 5}, {Offset: 1, Time: -3}, {Offset: 2, Part: 2, Time: 200}}), api.OK)
	check(t, "Seal", c.Seal([]api.Event{{Offset: 3, Time: -1}}), api.OK)
	body := "\x03\x02" + "\x00\x03\x05\x90\x03" + "\x03\x04\x01\x01"
	if p, e := s.Read("cat"); string(p) != string(pageOf('c', []byte(body))) || e != api.OK {
		t.Errorf("cat is %x, error %d", p, e)
	}
	want := []catalog.Entry{{"seg.0.3", 0, 3, -3, 200}, {"seg.3.4", 3, 4, -1, -1}}
	if got := c.Entries(); !slices.Equal(got, want) {
		t.Errorf("Entries = %+v", got)
	}
	if got := s.List(); !slices.Equal(got, []string{"cat", "seg.0.3", "seg.3.4"}) {
		t.Errorf("files %q", got)
	}
}

// checkRefused looks that a call answers an error, and that nothing is otherwise behind it.
func checkRefused(t *testing.T, what string, s *files.Store, c *catalog.Catalog, call func() api.Errno, want api.Errno) {
	t.Helper()
	before, entries, to := told(t, s), c.Entries(), c.To()
	check(t, what, call(), want)
	for _, c := range []*catalog.Catalog{c, opened(t, s, c.Parts())} {
		if !slices.Equal(c.Entries(), entries) || c.To() != to {
			t.Errorf("%s: %+v, to %d; not %+v, to %d", what, c.Entries(), c.To(), entries, to)
		}
	}
	if told(t, s) != before {
		t.Errorf("%s: files %q", what, s.List())
	}
}

func checkSealError(t *testing.T, what string, s *files.Store, c *catalog.Catalog, l []api.Event, want api.Errno) {
	t.Helper()
	before := slices.Clone(l)
	checkRefused(t, what, s, c, func() api.Errno { return c.Seal(l) }, want)
	if !same(l, before) {
		t.Errorf("%s: Seal has changed its events", what)
	}
}

// P8.2: an offset that isn't To goes ahead of whatever else is wrong.
func TestSealErrOrder(t *testing.T) {
	for _, segs := range [][][]api.Event{nil, stretches(2, 10), stretches(2, 10, 5)} {
		s := newStore(t, bigRoom)
		c := sealed(t, s, 2, segs)
		for _, from := range []uint64{0, 1, 9, 10, 11, 14, 15, 16, api.MaxOffset - 1, api.MaxOffset, 1<<64 - 1} {
			if from == c.To() {
				continue
			}
			checkSealError(t, "another offset", s, c, eventsFrom(from, 3, 2), api.ErrOrder)
			checkSealError(t, "too many events", s, c, eventsFrom(from, api.MaxSeal+1, 2), api.ErrOrder)
			checkSealError(t, "no Form", s, c, []api.Event{{Offset: from, Part: 2}}, api.ErrOrder)
			checkSealError(t, "a gap", s, c, []api.Event{{Offset: from}, {Offset: from}}, api.ErrOrder)
		}
		check(t, "Seal", c.Seal(eventsFrom(c.To(), 3, 2)), api.OK)
	}
}

// P8.2: what segment.Write refuses.
func TestSealWriteErrors(t *testing.T) {
	for _, segs := range [][][]api.Event{nil, stretches(2, 10)} {
		s := newStore(t, bigRoom)
		m := model{2, segs}
		c := sealed(t, s, 2, segs)
		to := c.To()
		checkSealError(t, "nil", s, c, nil, api.ErrArg)
		checkSealError(t, "none", s, c, []api.Event{}, api.ErrArg)
		checkSealError(t, "too many", s, c, eventsFrom(to, api.MaxSeal+1, 2), api.ErrLong)
		checkSealError(t, "no Form", s, c, []api.Event{{Offset: to}, {Offset: to + 1, Part: 2}}, api.ErrForm)
		checkSealError(t, "a gap", s, c, []api.Event{{Offset: to}, {Offset: to + 2}}, api.ErrGap)
		last := eventsFrom(to, api.MaxSeal, 2)
		check(t, "Seal", c.Seal(last), api.OK)
		checkAll(t, "MaxSeal events", s, c, m.sealed(last))
	}
}

// P8.2: MaxFiles / 2 segments, and one more, which goes ahead of what its events are.
func TestSealErrLong(t *testing.T) {
	s := newStore(t, bigRoom)
	m := model{1, stretches(1, slices.Repeat([]int{1}, most)...)}
	c := sealed(t, s, 1, m.segs)
	checkAll(t, "as many as can be", s, c, m)
	to := c.To()
	checkSealError(t, "one more", s, c, eventsFrom(to, 1, 1), api.ErrLong)
	checkSealError(t, "no events", s, c, nil, api.ErrLong)
	checkSealError(t, "no Form", s, c, []api.Event{{Offset: to, Part: 1}}, api.ErrLong)
	checkSealError(t, "a gap", s, c, []api.Event{{Offset: to}, {Offset: to}}, api.ErrLong)
	checkSealError(t, "another offset", s, c, eventsFrom(to+1, 1, 1), api.ErrOrder)
	check(t, "Compact", c.Compact(100), api.OK)
	m = m.compacted(100)
	checkAll(t, "compacted", s, c, m)
	more := eventsFrom(to, 1, 1)
	check(t, "Seal", c.Seal(more), api.OK)
	checkAll(t, "one more behind Compact", s, c, m.sealed(more))
}

// filled is a store of some segments, and of files of others with so many bytes.
func filled(t *testing.T, room, parts int, segs [][]api.Event, others int) (*files.Store, *catalog.Catalog) {
	t.Helper()
	s := newStore(t, room)
	c := sealed(t, s, parts, segs)
	for i := range others {
		put(t, s, fmt.Sprint("other.", i), nil)
	}
	return s, c
}

// P8.2, P8.3: no room for the segment; room for it, but not for the catalog beside that which there is; room for all.
func TestSealErrFull(t *testing.T) {
	for _, segs := range [][][]api.Event{nil, stretches(2, 10)} {
		m := model{2, segs}
		more := eventsFrom(uint64(10*len(segs)), 70, 2)
		big, _ := filled(t, bigRoom, 2, segs, 0)
		used := big.Used()
		size := len(written(t, more, 2))
		cat := len(pageOf('c', catBody(2, m.sealed(more).entries())))
		for _, left := range []int{1, size - 1, size, size + 1, size + cat - 1} {
			s, c := filled(t, used+left, 2, segs, 0)
			checkSealError(t, fmt.Sprintf("%d bytes of room", left), s, c, more, api.ErrFull)
			checkAll(t, "behind ErrFull", s, c, m)
		}
		s, c := filled(t, used+size+cat, 2, segs, 0)
		check(t, "Seal", c.Seal(more), api.OK)
		checkAll(t, "just enough room", s, c, m.sealed(more))
	}
}

// P8.2, P8.3: the same of how many files there are.
func TestSealTooManyFiles(t *testing.T) {
	segs := stretches(1, 4, 4)
	more := eventsFrom(8, 4, 1)
	for others := api.MaxFiles - 5; others <= api.MaxFiles-3; others++ {
		s, c := filled(t, bigRoom, 1, segs, others)
		m := model{1, segs}
		if 3+others+2 <= api.MaxFiles {
			check(t, "Seal", c.Seal(more), api.OK)
			checkTold(t, "two files fewer than there can be", c, m.sealed(more))
			continue
		}
		checkSealError(t, fmt.Sprintf("%d other files", others), s, c, more, api.ErrFull)
	}
}

// P8.2: the store's errors stand behind all others; nothing is told otherwise while the power is off.
func TestSealWithoutPower(t *testing.T) {
	s := newStore(t, bigRoom)
	c := sealed(t, s, 1, stretches(1, 4, 4))
	check(t, "Arm", s.Arm(1), api.OK)
	check(t, "Append", s.Append("a", nil), api.ErrCrash)
	entries := c.Entries()
	check(t, "Seal", c.Seal(eventsFrom(8, 4, 1)), api.ErrCrash)
	check(t, "Seal of another offset", c.Seal(eventsFrom(9, 4, 1)), api.ErrOrder)
	check(t, "Seal of none", c.Seal(nil), api.ErrArg)
	check(t, "Compact", c.Compact(0), api.ErrCrash)
	check(t, "Compact of the last", c.Compact(1), api.ErrArg)
	checkScanError(t, "without power", c, all, api.ErrCrash)
	if l, n, e := c.Scan(segment.Filter{}); len(l) != 0 || n != 0 || e != api.OK {
		t.Errorf("Scan of nothing = %v, %d, error %d", l, n, e)
	}
	if !slices.Equal(c.Entries(), entries) || c.To() != 8 {
		t.Errorf("%+v, to %d", c.Entries(), c.To())
	}
}

// What is handed in is not kept: it may be written over behind the call.
func TestSealMemory(t *testing.T) {
	s := newStore(t, bigRoom)
	m := model{2, stretches(2, 100, 30)}
	c := opened(t, s, 2)
	for _, x := range m.segs {
		room := append(slices.Clone(x), eventsFrom(7, 5, 2)...)
		check(t, "Seal", c.Seal(room[:len(x)]), api.OK)
		if !same(room[:len(x)], x) || !same(room[len(x):], eventsFrom(7, 5, 2)) {
			t.Error("Seal has changed its events, or those behind them")
		}
		clear(room)
	}
	checkAll(t, "written over", s, c, m)
}
