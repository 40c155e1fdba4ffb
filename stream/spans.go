package stream

import (
	"slices"
	"sort"

	"headrace/api"
	"headrace/column"
)

// span is offsets from one on, below another one.
type span struct{ from, to uint64 }

// spans are offsets, in as few spans as can be, rising.
type spans []span

// has tells whether an offset is one of them.
func (s spans) has(offset uint64) bool {
	i := sort.Search(len(s), func(i int) bool { return s[i].to > offset })
	return i < len(s) && s[i].from <= offset
}

// with are these and an offset that isn't one of them; they stand in the room
// of these.
func (s spans) with(offset uint64) spans {
	one := span{offset, offset + 1}
	from := sort.Search(len(s), func(i int) bool { return s[i].to >= one.from })
	to := from
	for to < len(s) && s[to].from <= one.to {
		one.from, one.to = min(one.from, s[to].from), max(one.to, s[to].to)
		to++
	}
	return slices.Replace(s, from, to, one)
}

// count is how many offsets they are.
func (s spans) count() uint64 {
	var n uint64
	for _, x := range s {
		n += x.to - x.from
	}
	return n
}

// laySpans lays offsets from one on behind p: of each span how many there are
// ahead of it that aren't of any, and how many it has, less 1.
func laySpans(p []byte, s spans, from uint64) []byte {
	p = column.Uint(p, uint64(len(s)))
	for _, x := range s {
		p = column.Uint(p, x.from-from)
		p = column.Uint(p, x.to-x.from-1)
		from = x.to
	}
	return p
}

// readSpans are the next ones, of offsets from one on.
func readSpans(r *column.Reader, from uint64) spans {
	var s spans
	// There is no room kept for all of them: how many there are said to be may
	// be any number, and the reader gives up where no more offsets are left.
	for range r.Uint(api.MaxOffset) {
		ahead := r.Uint(api.MaxOffset - from)
		r.Check(len(s) == 0 || ahead > 0)
		from += ahead
		r.Check(from < api.MaxOffset)
		to := from + 1 + r.Uint(api.MaxOffset-from-1)
		s = append(s, span{from, to})
		from = to
	}
	return s
}
