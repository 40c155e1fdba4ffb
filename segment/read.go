package segment

import (
	"math"
	"slices"

	"headrace/api"
	"headrace/column"
	"headrace/event"
	"headrace/page"
)

// lastBytes is how many bytes the last page has: it is found from the end.
const lastBytes = 13

// Segment is a segment that is read.
type Segment struct {
	bytes  []byte
	parts  int
	chunks []Chunk
	foot   int // where it stands, and the last chunk's page ends
}

// Open: the segment of some bytes.
func Open(p []byte) (*Segment, api.Errno) {
	if len(p) < lastBytes {
		return nil, api.ErrForm
	}
	last := len(p) - lastBytes
	told, err := page.One(p[last:], lastKind)
	if err != api.OK {
		return nil, err
	}
	foot := placeOf(told)
	if foot > uint64(len(p)) {
		return nil, api.ErrForm
	}
	s := &Segment{foot: int(foot)}
	kind, body, behind, err := page.Read(p, s.foot)
	if err != api.OK {
		return nil, err
	}
	if kind != footKind || behind != last || !column.Try(body, s.readFoot) {
		return nil, api.ErrForm
	}
	s.bytes = slices.Clone(p)
	return s, api.OK
}

func (s *Segment) readFoot(r *column.Reader) {
	s.parts = int(r.Uint(api.MaxParts))
	n := r.Uint(math.MaxUint64)
	r.Check(s.parts >= 1 && n >= 1)
	// There is no room kept for n chunks: it may be any number, and the reader
	// gives up where the bytes end.
	for range n {
		c := s.readChunk(r)
		r.Check(s.follows(c))
		s.chunks = append(s.chunks, c)
	}
}

func (s *Segment) readChunk(r *column.Reader) Chunk {
	const mostOffset = api.MaxOffset - 1
	c := Chunk{
		Rows: int(r.Uint(api.MaxChunk)), At: int(r.Uint(uint64(s.foot))),
		From: r.Uint(mostOffset), To: r.Uint(mostOffset),
		Low: r.Int(), High: r.Int(),
		First: r.Text(api.MaxKey), Last: r.Text(api.MaxKey),
	}
	r.Check(c.Rows >= 1 && c.To == c.From+uint64(c.Rows-1) && c.At < s.foot)
	return c
}

// follows tells whether a chunk stands behind those that are read already.
func (s *Segment) follows(c Chunk) bool {
	if len(s.chunks) == 0 {
		return c.At == 0
	}
	ahead := s.chunks[len(s.chunks)-1]
	return c.At > ahead.At && c.From == ahead.To+1
}

// Chunks: what is told of all chunks. Parts: of how many partitions the log is. Range: the first offset, and the one behind the last.
func (s *Segment) Chunks() []Chunk {
	if s == nil {
		return nil
	}
	return slices.Clone(s.chunks)
}

func (s *Segment) Parts() int {
	if s == nil {
		return 0
	}
	return s.parts
}

func (s *Segment) Range() (uint64, uint64) {
	if s == nil || len(s.chunks) == 0 {
		return 0, 0
	}
	return s.chunks[0].From, s.chunks[len(s.chunks)-1].To + 1
}

// Scan: the events that are wanted, in their order; how many chunks were read.
func (s *Segment) Scan(f Filter) ([]api.Event, int, api.Errno) {
	if s == nil {
		return nil, 0, api.ErrNone
	}
	var wanted []api.Event
	read := 0
	for i, c := range s.chunks {
		if !f.May(c) {
			continue
		}
		rows, err := s.rowsOf(i)
		if err != api.OK {
			return nil, 0, err
		}
		read++
		for _, e := range rows {
			if f.Wants(e) {
				wanted = append(wanted, e)
			}
		}
	}
	return wanted, read, api.OK
}

// rowsOf are the events of a chunk, which are what the foot tells of it.
func (s *Segment) rowsOf(i int) ([]api.Event, api.Errno) {
	c := s.chunks[i]
	rows, behind, err := event.Read(s.bytes, c.At, s.parts)
	if err != api.OK {
		return nil, err
	}
	if behind != s.endOf(i) || check(rows, s.parts) != api.OK || chunkOf(rows, c.At) != c {
		return nil, api.ErrForm
	}
	return rows, api.OK
}

// endOf is where a chunk's page has to end.
func (s *Segment) endOf(i int) int {
	if i+1 < len(s.chunks) {
		return s.chunks[i+1].At
	}
	return s.foot
}
