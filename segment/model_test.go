package segment_test

import (
	"encoding/binary"
	"hash/crc32"
	"math"
	"math/rand/v2"
	"slices"
	"strings"
	"testing"

	"headrace/api"
	"headrace/event"
	"headrace/page"
	"headrace/segment"
)

// all is a filter that wants whatever there is.
var all = segment.Filter{To: math.MaxUint64, Low: math.MinInt64, High: math.MaxInt64}

// noNumber is what all that is no number is read as.
var noNumber = math.Float64frombits(0x7ff8000000000000)

// pageOf is a page, laid apart from the program.
func pageOf(kind byte, body []byte) []byte {
	p := binary.LittleEndian.AppendUint32(nil, uint32(len(body)))
	p = append(append(p, kind), body...)
	return binary.LittleEndian.AppendUint32(p, crc32.ChecksumIEEE(p))
}

// footOf is the body of a foot, laid apart from the program.
func footOf(parts uint64, chunks []segment.Chunk) []byte {
	p := binary.AppendUvarint(nil, parts)
	p = binary.AppendUvarint(p, uint64(len(chunks)))
	for _, c := range chunks {
		for _, n := range []uint64{uint64(c.Rows), uint64(c.At), c.From, c.To} {
			p = binary.AppendUvarint(p, n)
		}
		p = binary.AppendVarint(binary.AppendVarint(p, c.Low), c.High)
		for _, key := range []string{c.First, c.Last} {
			p = append(binary.AppendUvarint(p, uint64(len(key))), key...)
		}
	}
	return p
}

// lastOf is the last page, which tells a place.
func lastOf(place int) []byte {
	return pageOf('t', binary.LittleEndian.AppendUint32(nil, uint32(place)))
}

// bytesOf are the pages of chunks, a foot of that body, and the last page.
func bytesOf(pages, foot []byte) []byte {
	return slices.Concat(pages, pageOf('f', foot), lastOf(len(pages)))
}

// tell is what is to be told of some rows, told apart from the program.
func tell(rows []api.Event, at int) segment.Chunk {
	var offsets []uint64
	var times []int64
	var keys []string
	for _, e := range rows {
		offsets = append(offsets, e.Offset)
		times = append(times, e.Time)
		keys = append(keys, e.Key)
	}
	slices.Sort(offsets)
	slices.Sort(times)
	slices.Sort(keys)
	last := len(rows) - 1
	return segment.Chunk{
		Rows: len(rows), At: at, From: offsets[0], To: offsets[last],
		Low: times[0], High: times[last], First: keys[0], Last: keys[last],
	}
}

// pagesOf are the pages of events, so many each (the last size for all that are left), and what is told of them.
func pagesOf(l []api.Event, sizes ...int) ([]byte, []segment.Chunk) {
	var p []byte
	var chunks []segment.Chunk
	for len(l) > 0 {
		n := min(sizes[0], len(l))
		chunks = append(chunks, tell(l[:n], len(p)))
		p = event.Lay(p, l[:n])
		l = l[n:]
		if len(sizes) > 1 {
			sizes = sizes[1:]
		}
	}
	return p, chunks
}

// segmentOf is a segment of chunks of such sizes, told apart from the program.
func segmentOf(l []api.Event, parts int, sizes ...int) []byte {
	pages, chunks := pagesOf(l, sizes...)
	return bytesOf(pages, footOf(uint64(parts), chunks))
}

// eventsFrom are n events whose offsets follow one another: keys repeat, and are empty; times fall, and are below 0.
func eventsFrom(from uint64, n, parts int) []api.Event {
	r := rand.New(rand.NewPCG(from, uint64(n)))
	keys := []string{"", "a", "ab", "b", "\x00", "\xff", "é", strings.Repeat("k", api.MaxKey)}
	vals := []float64{0, math.Copysign(0, -1), 1.5, -2, math.Inf(1), math.Inf(-1), noNumber, 5e-324, math.MaxFloat64}
	l := make([]api.Event, n)
	for i := range l {
		l[i] = api.Event{
			Offset: from + uint64(i),
			Part:   r.IntN(parts),
			Time:   int64(i/10) + r.Int64N(41) - 20,
			Key:    keys[r.IntN(len(keys))],
			Val:    vals[r.IntN(len(vals))],
		}
	}
	return l
}

// same: are they the same events, to the bits of their values?
func same(a, b []api.Event) bool {
	return slices.EqualFunc(a, b, func(a, b api.Event) bool {
		x, y := math.Float64bits(a.Val), math.Float64bits(b.Val)
		a.Val, b.Val = 0, 0
		return a == b && x == y
	})
}

// written is a segment of events, which Write must lay.
func written(t *testing.T, l []api.Event, parts int) []byte {
	t.Helper()
	p, e := segment.Write(l, parts)
	if e != api.OK {
		t.Fatalf("Write of %d events, %d partitions: error %d", len(l), parts, e)
	}
	return p
}

// opened is the segment of bytes, which Open must read.
func opened(t *testing.T, p []byte) *segment.Segment {
	t.Helper()
	s, e := segment.Open(p)
	if s == nil || e != api.OK {
		t.Fatalf("Open(%x) = %v, error %d", p, s, e)
	}
	return s
}

func checkOpenError(t *testing.T, what string, p []byte, want api.Errno) {
	t.Helper()
	before := slices.Clone(p)
	if s, e := segment.Open(p); s != nil || e != want {
		t.Errorf("%s: Open(%x) = %v, error %d; not nil, %d", what, p, s, e, want)
	}
	if !slices.Equal(p, before) {
		t.Errorf("%s: %x was changed: %x", what, before, p)
	}
}

func checkScan(t *testing.T, what string, s *segment.Segment, f segment.Filter, want []api.Event, chunks int) {
	t.Helper()
	if l, n, e := s.Scan(f); !same(l, want) || n != chunks || e != api.OK {
		t.Errorf("%s: Scan(%+v) = %d events, %d, error %d; not %d events, %d", what, f, len(l), n, e, len(want), chunks)
	}
}

func checkScanError(t *testing.T, what string, s *segment.Segment, f segment.Filter, want api.Errno) {
	t.Helper()
	if l, n, e := s.Scan(f); len(l) != 0 || n != 0 || e != want {
		t.Errorf("%s: Scan(%+v) = %d events, %d, error %d; not error %d beside noughts", what, f, len(l), n, e, want)
	}
}

// model is a segment that was read apart from the program.
type model struct {
	p      []byte
	parts  int
	chunks []segment.Chunk
	ends   []int
}

// modelOf is what Open is to answer, told apart from the program.
func modelOf(p []byte) (*model, api.Errno) {
	if len(p) < 13 {
		return nil, api.ErrForm
	}
	last := len(p) - 13
	kind, body, _, e := page.Read(p[last:], 0)
	if e != api.OK {
		return nil, e
	}
	if kind != 't' || len(body) != 4 {
		return nil, api.ErrForm
	}
	foot := int(binary.LittleEndian.Uint32(body))
	if foot > len(p) {
		return nil, api.ErrForm
	}
	kind, body, behind, e := page.Read(p, foot)
	if e != api.OK {
		return nil, e
	}
	m := &model{p: p}
	if kind != 'f' || behind != last || !m.read(body) || !m.right(foot) {
		return nil, api.ErrForm
	}
	return m, api.OK
}

// read takes what a foot says, and tells whether it says all that, and no more.
func (m *model) read(body []byte) bool {
	ok := true
	number := func() uint64 {
		n, size := binary.Uvarint(body)
		if size <= 0 || size > 1 && body[size-1] == 0 {
			ok, body = false, nil
			return 0
		}
		body = body[size:]
		return n
	}
	signed := func() int64 {
		n := number()
		if n%2 == 1 {
			return -int64(n/2) - 1
		}
		return int64(n / 2)
	}
	text := func() string {
		n := number()
		if n > uint64(len(body)) || n > api.MaxKey {
			ok, body = false, nil
			return ""
		}
		s := string(body[:n])
		body = body[n:]
		return s
	}
	small := func() int { return int(min(number(), math.MaxInt32)) }
	m.parts = small()
	for n := number(); n > 0 && ok; n-- {
		c := segment.Chunk{Rows: small(), At: small(), From: number(), To: number()}
		c.Low, c.High = signed(), signed()
		c.First, c.Last = text(), text()
		m.chunks = append(m.chunks, c)
	}
	return ok && len(body) == 0
}

// right tells whether what was read is so as a foot has to be, and sets where pages end.
func (m *model) right(foot int) bool {
	if m.parts < 1 || m.parts > api.MaxParts || len(m.chunks) == 0 || m.chunks[0].At != 0 {
		return false
	}
	next := m.chunks[0].From
	for i, c := range m.chunks {
		if c.Rows < 1 || c.Rows > api.MaxChunk || c.From >= api.MaxOffset || c.To >= api.MaxOffset || c.At >= foot {
			return false
		}
		if i > 0 && c.At <= m.chunks[i-1].At || c.From != next || c.To-c.From != uint64(c.Rows)-1 {
			return false
		}
		next = c.To + 1
		m.ends = append(m.ends, foot)
		if i > 0 {
			m.ends[i-1] = c.At
		}
	}
	return true
}

// scan is what Scan is to answer, told apart from the program.
func (m *model) scan(f segment.Filter) ([]api.Event, int, api.Errno) {
	var l []api.Event
	n := 0
	for i, c := range m.chunks {
		if f.From >= f.To || f.Low > f.High || f.From > c.To || f.To <= c.From || f.Low > c.High || f.High < c.Low || c.Low > c.High {
			continue
		}
		rows, behind, e := event.Read(m.p, c.At, m.parts)
		if e != api.OK {
			return nil, 0, e
		}
		if behind != m.ends[i] || len(rows) == 0 || tell(rows, c.At) != c {
			return nil, 0, api.ErrForm
		}
		n++
		for k, e := range rows {
			if e.Offset != c.From+uint64(k) {
				return nil, 0, api.ErrForm
			}
			if e.Offset >= f.From && e.Offset < f.To && e.Time >= f.Low && e.Time <= f.High {
				l = append(l, e)
			}
		}
	}
	return l, n, api.OK
}
