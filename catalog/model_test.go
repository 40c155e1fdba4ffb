package catalog_test

import (
	"encoding/binary"
	"fmt"
	"hash/crc32"
	"math"
	"math/rand/v2"
	"slices"
	"strings"
	"testing"

	"headrace/api"
	"headrace/catalog"
	"headrace/files"
	"headrace/segment"
)

const (
	bigRoom = 1 << 22
	most    = api.MaxFiles / 2
)

// all is a filter that wants whatever there is.
var all = segment.Filter{To: math.MaxUint64, Low: math.MinInt64, High: math.MaxInt64}

// pageOf is a page, laid apart from the program.
func pageOf(kind byte, body []byte) []byte {
	p := binary.LittleEndian.AppendUint32(nil, uint32(len(body)))
	p = append(append(p, kind), body...)
	return binary.LittleEndian.AppendUint32(p, crc32.ChecksumIEEE(p))
}

// catBody is what stands in the file cat, laid apart from the program.
func catBody(parts int, l []catalog.Entry) []byte {
	p := binary.AppendUvarint(nil, uint64(parts))
	p = binary.AppendUvarint(p, uint64(len(l)))
	for _, e := range l {
		p = binary.AppendUvarint(binary.AppendUvarint(p, e.From), e.To)
		p = binary.AppendVarint(binary.AppendVarint(p, e.Low), e.High)
	}
	return p
}

// entryOf is what is to be told of a segment of such events, told apart from the program.
func entryOf(l []api.Event) catalog.Entry {
	var times []int64
	for _, e := range l {
		times = append(times, e.Time)
	}
	from, to := l[0].Offset, l[len(l)-1].Offset+1
	return catalog.Entry{Name: fmt.Sprintf("seg.%d.%d", from, to), From: from, To: to, Low: slices.Min(times), High: slices.Max(times)}
}

// eventsFrom are n events whose offsets follow one another; times fall, and are below 0.
func eventsFrom(from uint64, n, parts int) []api.Event {
	r := rand.New(rand.NewPCG(from, uint64(n)))
	keys := []string{"", "a", "ab", "\xff", strings.Repeat("k", api.MaxKey)}
	vals := []float64{0, math.Copysign(0, -1), 1.5, -2, math.Inf(1), 5e-324}
	l := make([]api.Event, n)
	for i := range l {
		l[i] = api.Event{
			Offset: from + uint64(i),
			Part:   r.IntN(parts),
			Time:   int64(from) + int64(i/10) + r.Int64N(41) - 20,
			Key:    keys[r.IntN(len(keys))],
			Val:    vals[r.IntN(len(vals))],
		}
	}
	return l
}

// stretches are events of a log from offset 0 on, cut into so many each.
func stretches(parts int, sizes ...int) [][]api.Event {
	var l [][]api.Event
	from := uint64(0)
	for _, n := range sizes {
		l = append(l, eventsFrom(from, n, parts))
		from += uint64(n)
	}
	return l
}

// same: are they the same events, to the bits of their values?
func same(a, b []api.Event) bool {
	return slices.EqualFunc(a, b, func(a, b api.Event) bool {
		x, y := math.Float64bits(a.Val), math.Float64bits(b.Val)
		a.Val, b.Val = 0, 0
		return a == b && x == y
	})
}

func newStore(t *testing.T, room int) *files.Store {
	t.Helper()
	s, e := files.New(room)
	if e != api.OK {
		t.Fatalf("files.New(%d): error %d", room, e)
	}
	return s
}

func check(t *testing.T, what string, got, want api.Errno) {
	t.Helper()
	if got != want {
		t.Fatalf("%s = %d, not %d", what, got, want)
	}
}

// written is a segment's bytes.
func written(t *testing.T, l []api.Event, parts int) []byte {
	t.Helper()
	p, e := segment.Write(l, parts)
	check(t, "segment.Write", e, api.OK)
	return p
}

// put makes a file of these bytes, durable, in the place of the one that there is.
func put(t *testing.T, s *files.Store, name string, p []byte) {
	t.Helper()
	if slices.Contains(s.List(), name) {
		check(t, "Delete "+name, s.Delete(name), api.OK)
	}
	check(t, "Append "+name, s.Append(name, p), api.OK)
	check(t, "Sync "+name, s.Sync(name), api.OK)
}

// opened is the catalog of a store, which Open must read.
func opened(t *testing.T, s *files.Store, parts int) *catalog.Catalog {
	t.Helper()
	c, e := catalog.Open(s, parts)
	if c == nil || e != api.OK {
		t.Fatalf("Open = %v, error %d", c, e)
	}
	return c
}

// sealed is a store's catalog of these segments.
func sealed(t *testing.T, s *files.Store, parts int, l [][]api.Event) *catalog.Catalog {
	t.Helper()
	c := opened(t, s, parts)
	for i, x := range l {
		check(t, fmt.Sprintf("Seal %d", i), c.Seal(x), api.OK)
	}
	return c
}

// told is all that a store tells of its files.
func told(t *testing.T, s *files.Store) string {
	t.Helper()
	var b strings.Builder
	for _, name := range s.List() {
		p, e := s.Read(name)
		check(t, "Read "+name, e, api.OK)
		fmt.Fprintf(&b, "%s=%x ", name, p)
	}
	return b.String()
}

// model is what a catalog is to hold, written apart from the program.
type model struct {
	parts int
	segs  [][]api.Event
}

func (m model) entries() []catalog.Entry {
	var l []catalog.Entry
	for _, x := range m.segs {
		l = append(l, entryOf(x))
	}
	return l
}

// sealed is the model with a segment more, compacted one with two segments as one.
func (m model) sealed(l []api.Event) model {
	return model{m.parts, slices.Concat(m.segs, [][]api.Event{l})}
}

func (m model) compacted(i int) model {
	one := slices.Concat(m.segs[i], m.segs[i+1])
	return model{m.parts, slices.Concat(m.segs[:i], [][]api.Event{one}, m.segs[i+2:])}
}

// files is what a store tells of its files that has nothing but the catalog.
func (m model) files(t *testing.T) string {
	t.Helper()
	var l []string
	for _, x := range m.segs {
		l = append(l, fmt.Sprintf("%s=%x ", entryOf(x).Name, written(t, x, m.parts)))
	}
	if len(l) > 0 {
		l = append(l, fmt.Sprintf("cat=%x ", pageOf('c', catBody(m.parts, m.entries()))))
	}
	slices.SortFunc(l, func(a, b string) int {
		return strings.Compare(nameOf(a), nameOf(b))
	})
	return strings.Join(l, "")
}

// nameOf is the name of what is told of a file.
func nameOf(told string) string {
	name, _, _ := strings.Cut(told, "=")
	return name
}

// scan is what a filter wants, and of how many chunks.
func (m model) scan(f segment.Filter) ([]api.Event, int) {
	var l []api.Event
	chunks := 0
	for _, x := range m.segs {
		for rows := range slices.Chunk(x, api.MaxChunk) {
			e := entryOf(rows)
			if f.From < f.To && f.From < e.To && e.From < f.To && f.Low <= f.High && f.Low <= e.High && e.Low <= f.High {
				chunks++
			}
		}
		for _, e := range x {
			if e.Offset >= f.From && e.Offset < f.To && e.Time >= f.Low && e.Time <= f.High {
				l = append(l, e)
			}
		}
	}
	return l, chunks
}

func checkScan(t *testing.T, c *catalog.Catalog, m model, f segment.Filter) {
	t.Helper()
	want, chunks := m.scan(f)
	if l, n, e := c.Scan(f); !same(l, want) || n != chunks || e != api.OK {
		t.Errorf("Scan(%+v) = %d events, %d, error %d; not %d events, %d", f, len(l), n, e, len(want), chunks)
	}
}

func checkScanError(t *testing.T, what string, c *catalog.Catalog, f segment.Filter, want api.Errno) {
	t.Helper()
	if l, n, e := c.Scan(f); len(l) != 0 || n != 0 || e != want {
		t.Errorf("%s: Scan(%+v) = %d events, %d, error %d; not error %d beside noughts", what, f, len(l), n, e, want)
	}
}

// checkTold holds what a catalog tells of itself against the model.
func checkTold(t *testing.T, what string, c *catalog.Catalog, m model) {
	t.Helper()
	to := uint64(0)
	for _, x := range m.segs {
		to += uint64(len(x))
	}
	if got := c.Entries(); !slices.Equal(got, m.entries()) || c.To() != to || c.Parts() != m.parts {
		t.Fatalf("%s: %+v, to %d, of %d; not %+v, to %d, of %d", what, got, c.To(), c.Parts(), m.entries(), to, m.parts)
	}
	checkScan(t, c, m, all)
}

// checkAll holds the store's files against the model, too, and what is behind a Restart.
func checkAll(t *testing.T, what string, s *files.Store, c *catalog.Catalog, m model) {
	t.Helper()
	checkTold(t, what, c, m)
	if got, want := told(t, s), m.files(t); got != want {
		t.Fatalf("%s: the files are %s; not %s", what, got, want)
	}
	check(t, "Restart", s.Restart(nil), api.OK)
	checkTold(t, what+", opened behind a Restart", opened(t, s, m.parts), m)
}
