package catalog_test

import (
	"encoding/binary"
	"fmt"
	"math"
	"slices"
	"testing"

	"headrace/api"
	"headrace/column"
	"headrace/event"
	"headrace/segment"
)

// P8.2: two segments are one, whichever they are.
func TestCompact(t *testing.T) {
	segs := stretches(2, 10, 64, 1, 130, 7)
	for i := range len(segs) - 1 {
		s := newStore(t, bigRoom)
		c := sealed(t, s, 2, segs)
		check(t, "Compact", c.Compact(i), api.OK)
		checkAll(t, fmt.Sprintf("Compact(%d)", i), s, c, model{2, segs}.compacted(i))
	}
}

// P8: the chapter's example.
func TestCompactExample(t *testing.T) {
	s := newStore(t, bigRoom)
	c := sealed(t, s, 1, stretches(1, 10, 10))
	check(t, "Compact", c.Compact(0), api.OK)
	if l := c.Entries(); len(l) != 1 || l[0].Name != "seg.0.20" || l[0].From != 0 || l[0].To != 20 {
		t.Errorf("Entries = %+v", l)
	}
	if l := s.List(); !slices.Equal(l, []string{"cat", "seg.0.20"}) {
		t.Errorf("files %q", l)
	}
}

// P8.2: until one is left, and then events behind it.
func TestCompactToOne(t *testing.T) {
	s := newStore(t, bigRoom)
	m := model{3, stretches(3, 10, 64, 1, 130, 7, 1)}
	c := sealed(t, s, 3, m.segs)
	for len(m.segs) > 1 {
		i := len(m.segs) / 3
		check(t, "Compact", c.Compact(i), api.OK)
		m = m.compacted(i)
		checkAll(t, "compacted", s, c, m)
	}
	more := eventsFrom(c.To(), 20, 3)
	check(t, "Seal", c.Seal(more), api.OK)
	checkAll(t, "and sealed", s, c, m.sealed(more))
}

// P8.2: there are no such two.
func TestCompactErrArg(t *testing.T) {
	for n := range 4 {
		s := newStore(t, bigRoom)
		c := sealed(t, s, 1, stretches(1, slices.Repeat([]int{api.MaxSeal}, n)...))
		for _, i := range []int{math.MinInt, -2, -1, n - 1, n, n + 1, math.MaxInt - 1, math.MaxInt} {
			if i >= 0 && i < n-1 {
				continue
			}
			checkRefused(t, fmt.Sprintf("Compact(%d) of %d", i, n), s, c, func() api.Errno { return c.Compact(i) }, api.ErrArg)
		}
	}
}

// P8.2: two that together have MaxSeal events, and one more, which goes ahead of what their files are.
func TestCompactErrLong(t *testing.T) {
	for _, first := range []int{1, 500, api.MaxSeal - 1} {
		segs := stretches(1, first, api.MaxSeal-first, first+1)
		s := newStore(t, bigRoom)
		c := sealed(t, s, 1, segs)
		checkRefused(t, "one more", s, c, func() api.Errno { return c.Compact(1) }, api.ErrLong)
		check(t, "Compact", c.Compact(0), api.OK)
		m := model{1, segs}.compacted(0)
		checkAll(t, "MaxSeal together", s, c, m)
		checkRefused(t, "many more", s, c, func() api.Errno { return c.Compact(0) }, api.ErrLong)
		check(t, "Delete", s.Delete(m.entries()[0].Name), api.OK)
		checkRefused(t, "many more, of a file that isn't there", s, c, func() api.Errno { return c.Compact(0) }, api.ErrLong)
	}
}

// P8.2: a segment's file that isn't there; that of a third one plays no part.
func TestCompactOfMissing(t *testing.T) {
	segs := stretches(1, 10, 20, 10)
	for gone := range segs {
		for i := range 2 {
			s := newStore(t, bigRoom)
			c := sealed(t, s, 1, segs)
			check(t, "Delete", s.Delete(model{1, segs}.entries()[gone].Name), api.OK)
			if i != gone && i+1 != gone {
				check(t, "Compact", c.Compact(i), api.OK)
				continue
			}
			checkRefused(t, "a file that isn't there", s, c, func() api.Errno { return c.Compact(i) }, api.ErrNone)
		}
	}
}

// P8.2, P8.3: no room for the segment beside the two, room for it but not for the catalog, room for all.
func TestCompactErrFull(t *testing.T) {
	segs := stretches(1, 10, 70, 5)
	m := model{1, segs}
	whole := m.compacted(0)
	big, _ := filled(t, bigRoom, 1, segs, 0)
	size := len(written(t, whole.segs[0], 1))
	cat := len(pageOf('c', catBody(1, whole.entries())))
	for _, left := range []int{0, 1, size - 1, size, size + cat - 1} {
		// To be sealed, the segments take more room than what is to be left.
		s, c := filled(t, big.Used()+1000, 1, segs, 0)
		check(t, "Append", s.Append("other", make([]byte, 1000-left)), api.OK)
		checkRefused(t, fmt.Sprintf("%d bytes of room", left), s, c, func() api.Errno { return c.Compact(0) }, api.ErrFull)
		check(t, "Delete", s.Delete("other"), api.OK)
		checkAll(t, "behind ErrFull", s, c, m)
	}
	s, c := filled(t, big.Used()+size+cat, 1, segs, 0)
	check(t, "Compact", c.Compact(0), api.OK)
	checkAll(t, "just enough room", s, c, whole)
	for others := api.MaxFiles - 6; others <= api.MaxFiles-4; others++ {
		s, c := filled(t, bigRoom, 1, segs, others)
		if 4+others+2 <= api.MaxFiles {
			check(t, "Compact", c.Compact(0), api.OK)
			checkTold(t, "two files fewer than there can be", c, whole)
			continue
		}
		checkRefused(t, "too many files", s, c, func() api.Errno { return c.Compact(0) }, api.ErrFull)
	}
}

// hiding is a segment of two chunks whose foot tells that one of them has no time at all.
func hiding(l []api.Event, hidden int) []byte {
	p := event.Lay(nil, l[:64])
	at := []int{0, len(p)}
	p = event.Lay(p, l[64:])
	foot := column.Uint(column.Uint(nil, 1), 2)
	for i, rows := range [][]api.Event{l[:64], l[64:]} {
		e := entryOf(rows)
		if i == hidden {
			e.Low, e.High = 1, 0
		}
		for _, n := range []uint64{uint64(len(rows)), uint64(at[i]), e.From, e.To - 1} {
			foot = column.Uint(foot, n)
		}
		foot = column.Int(column.Int(foot, e.Low), e.High)
		foot = column.Text(column.Text(foot, rows[0].Key), rows[0].Key)
	}
	last := binary.LittleEndian.AppendUint32(nil, uint32(len(p)))
	return slices.Concat(p, pageOf('f', foot), pageOf('t', last))
}

// P8.3: what no scan finds isn't lost: a segment whose foot hides a chunk is not as it must be.
func TestCompactOfHidden(t *testing.T) {
	for hidden := range 2 {
		for place := range 2 {
			segs := stretches(1, 100, 100)
			for _, rows := range segs {
				for i := range rows {
					rows[i].Key = "k"
				}
			}
			s := newStore(t, bigRoom)
			c := sealed(t, s, 1, segs)
			put(t, s, entryOf(segs[place]).Name, hiding(segs[place], hidden))
			if l, _, e := c.Scan(segment.Filter{To: math.MaxUint64, Low: -api.MaxTime, High: api.MaxTime}); e != api.OK || len(l) >= 200 {
				t.Fatalf("Scan = %d events, error %d: nothing is hidden", len(l), e)
			}
			checkRefused(t, "a hidden chunk", s, c, func() api.Errno { return c.Compact(0) }, api.ErrForm)
		}
	}
}
