package catalog

import (
	"headrace/api"
	"headrace/segment"
)

// Scan: the events that are wanted, in their order; how many chunks were read.
func (c *Catalog) Scan(f segment.Filter) ([]api.Event, int, api.Errno) {
	if c == nil {
		return nil, 0, api.ErrNone
	}
	met := c.met(f)
	laid, err := c.read(met)
	if err != api.OK {
		return nil, 0, err
	}
	return c.scan(met, laid, f)
}

// met are the segments whose offsets and times meet a filter's.
func (c *Catalog) met(f segment.Filter) []Entry {
	var l []Entry
	for _, e := range c.entries {
		if f.May(segment.Chunk{From: e.From, To: e.To - 1, Low: e.Low, High: e.High}) {
			l = append(l, e)
		}
	}
	return l
}

// read is the bytes of segments: of all of them ahead of the first one's events,
// since the store's error goes ahead of every segment's.
func (c *Catalog) read(l []Entry) ([][]byte, api.Errno) {
	laid := make([][]byte, len(l))
	for i, e := range l {
		p, err := c.store.Read(e.Name)
		if err != api.OK {
			return nil, err
		}
		laid[i] = p
	}
	return laid, api.OK
}

// scan is what is wanted of segments that were laid as these bytes. Of several
// segments' errors the least is answered; of another log, or of other offsets,
// a segment is behind all of these.
func (c *Catalog) scan(l []Entry, laid [][]byte, f segment.Filter) ([]api.Event, int, api.Errno) {
	var wanted []api.Event
	read, first, ours := 0, api.OK, true
	for i, e := range l {
		s, rows, chunks, err := scanBytes(laid[i], f)
		if err != api.OK && (first == api.OK || err < first) {
			first = err
		}
		ours = ours && c.is(s, e)
		wanted = append(wanted, rows...)
		read += chunks
	}
	if first == api.OK && !ours {
		first = api.ErrForm
	}
	if first != api.OK {
		return nil, 0, first
	}
	return wanted, read, api.OK
}

// scanBytes is the segment of some bytes, what is wanted of it, and how many of
// its chunks were read.
func scanBytes(p []byte, f segment.Filter) (*segment.Segment, []api.Event, int, api.Errno) {
	s, err := segment.Open(p)
	if err != api.OK {
		return nil, nil, 0, err
	}
	rows, chunks, err := s.Scan(f)
	return s, rows, chunks, err
}

// is tells whether a segment is of this log, and of an entry's offsets.
func (c *Catalog) is(s *segment.Segment, e Entry) bool {
	from, to := s.Range()
	return s.Parts() == c.parts && from == e.From && to == e.To
}
