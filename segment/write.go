package segment

import (
	"slices"

	"headrace/api"
	"headrace/column"
	"headrace/event"
	"headrace/page"
)

const placeBytes = 4

// Write: a segment of events whose offsets follow one another.
func Write(l []api.Event, parts int) ([]byte, api.Errno) {
	if len(l) == 0 || parts < 1 || parts > api.MaxParts {
		return nil, api.ErrArg
	}
	if len(l) > api.MaxSeal {
		return nil, api.ErrLong
	}
	if err := check(l, parts); err != api.OK {
		return nil, err
	}
	var p []byte
	var chunks []Chunk
	for rows := range slices.Chunk(l, api.MaxChunk) {
		chunks = append(chunks, chunkOf(rows, len(p)))
		p = event.Lay(p, rows)
	}
	foot := len(p)
	p = page.Lay(p, footKind, layFoot(parts, chunks))
	return page.Lay(p, lastKind, layPlace(foot)), api.OK
}

func layFoot(parts int, chunks []Chunk) []byte {
	p := layNumbers(nil, uint64(parts), uint64(len(chunks)))
	for _, c := range chunks {
		p = layNumbers(p, uint64(c.Rows), uint64(c.At), c.From, c.To)
		p = column.Int(column.Int(p, c.Low), c.High)
		p = column.Text(column.Text(p, c.First), c.Last)
	}
	return p
}

// layNumbers lays numbers behind p, in their order.
func layNumbers(p []byte, numbers ...uint64) []byte {
	for _, n := range numbers {
		p = column.Uint(p, n)
	}
	return p
}

// layPlace is a place in four bytes, the lowest first.
func layPlace(at int) []byte {
	p := make([]byte, placeBytes)
	for i := range p {
		p[i] = byte(at >> (8 * i))
	}
	return p
}

// placeOf is the place that some bytes tell.
func placeOf(p []byte) uint64 {
	var at uint64
	for i, b := range p {
		at |= uint64(b) << (8 * i)
	}
	return at
}
