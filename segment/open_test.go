package segment_test

import (
	"encoding/binary"
	"hash/crc32"
	"math"
	"math/bits"
	"slices"
	"strings"
	"testing"

	"headrace/api"
	"headrace/page"
	"headrace/segment"
)

// P7.2: what Write lays, of each number of partitions, from each offset on.
func TestOpenOfWrite(t *testing.T) {
	for _, n := range sizes {
		for parts := 1; parts <= api.MaxParts; parts++ {
			for _, from := range []uint64{0, 1, 127, 1 << 32, api.MaxOffset - uint64(n)} {
				l := eventsFrom(from, n, parts)
				checkOpen(t, written(t, l, parts), parts, l, api.MaxChunk)
			}
		}
	}
}

// checkOpen holds a segment against the events that it is of, in chunks of such sizes.
func checkOpen(t *testing.T, p []byte, parts int, l []api.Event, sizes ...int) {
	t.Helper()
	s := opened(t, p)
	_, chunks := pagesOf(l, sizes...)
	if got := s.Chunks(); !slices.Equal(got, chunks) {
		t.Errorf("%d events: chunks %+v, not %+v", len(l), got, chunks)
	}
	if got := s.Parts(); got != parts {
		t.Errorf("%d events: Parts = %d, not %d", len(l), got, parts)
	}
	if from, to := s.Range(); from != l[0].Offset || to != l[0].Offset+uint64(len(l)) {
		t.Errorf("%d events from %d on: Range = %d, %d", len(l), l[0].Offset, from, to)
	}
	checkScan(t, "what was written", s, all, l, len(chunks))
}

// P7.2: chunks may be of any numbers of rows to MaxChunk, though Write makes them else; and they may be many.
func TestOpenOfOtherChunks(t *testing.T) {
	for _, sizes := range [][]int{{1}, {2}, {1, 64, 2, 63, 1, 64}, {63}, {64, 1}, {3, 5, 7}} {
		for _, n := range []int{1, 2, 130, 200} {
			l := eventsFrom(70, n, 4)
			checkOpen(t, segmentOf(l, 4, sizes...), 4, l, sizes...)
		}
	}
	l := eventsFrom(0, 2*api.MaxSeal, 3)
	checkOpen(t, segmentOf(l, 3, 2), 3, l, 2)
}

// P7.2: bytes fewer than 13, and just 13.
func TestOpenOfFewBytes(t *testing.T) {
	p := written(t, eventsFrom(0, 3, 1), 1)
	for n := range 13 {
		checkOpenError(t, "the first bytes", p[:n], api.ErrForm)
		checkOpenError(t, "the last bytes", p[len(p)-n:], api.ErrForm)
		checkOpenError(t, "noughts", make([]byte, n), api.ErrForm)
	}
	checkOpenError(t, "nil", nil, api.ErrForm)
	checkOpenError(t, "a page without a body", pageOf('t', nil), api.ErrForm)
	checkOpenError(t, "13 noughts", make([]byte, 13), api.ErrSum)
	checkOpenError(t, "13 bytes of no page", slices.Repeat([]byte{255}, 13), api.ErrForm)
	for place := range 15 {
		checkOpenError(t, "a last page alone", lastOf(place), api.ErrForm)
	}
	checkOpenError(t, "a last page alone, of a wrong sum", turned(lastOf(0), 40), api.ErrSum)
}

// turned are bytes of which a bit is turned.
func turned(p []byte, bit int) []byte {
	q := slices.Clone(p)
	q[bit/8] ^= 1 << (bit % 8)
	return q
}

// P7.2: bytes that are cut short, and bytes behind and ahead of a segment.
func TestOpenOfOtherBytes(t *testing.T) {
	l := eventsFrom(0, 70, 2)
	p := written(t, l, 2)
	for n := range p {
		_, want := modelOf(p[:n])
		if want == api.OK {
			t.Fatalf("the first %d of %d bytes are a segment", n, len(p))
		}
		checkOpenError(t, "cut short", p[:n], want)
		_, want = modelOf(p[n+1:])
		checkOpenError(t, "without the first bytes", p[n+1:], want)
	}
	for _, more := range [][]byte{{0}, {'t'}, []byte("more"), pageOf('t', nil), p[:20], make([]byte, 13)} {
		behind := slices.Concat(p, more)
		_, _, _, want := page.Read(behind, len(behind)-13)
		if want == api.OK {
			want = api.ErrForm
		}
		checkOpenError(t, "bytes behind", behind, want)
		// The foot is looked for where it would stand without them.
		ahead := slices.Concat(more, p)
		_, _, _, want = page.Read(ahead, len(p)-13-9-len(footOf(2, opened(t, p).Chunks())))
		checkOpenError(t, "bytes ahead", ahead, want)
	}
	checkOpenError(t, "another last page behind", slices.Concat(p, p[len(p)-13:]), api.ErrForm)
	// Of two segments, one behind the other, the last page tells a place in the first one.
	_, want := modelOf(slices.Concat(p, p))
	checkOpenError(t, "two segments", slices.Concat(p, p), want)
}

// P7.2: a last page of another kind, of another length, with a wrong sum.
func TestOpenOfNoLastPage(t *testing.T) {
	l := eventsFrom(0, 3, 1)
	pages, chunks := pagesOf(l, 3)
	place := binary.LittleEndian.AppendUint32(nil, uint32(len(pages)))
	p := slices.Concat(pages, pageOf('f', footOf(1, chunks)))
	for kind := range 256 {
		q := slices.Concat(p, pageOf(byte(kind), place))
		if kind == 't' {
			opened(t, q)
		} else {
			checkOpenError(t, "another kind", q, api.ErrForm)
		}
	}
	for n := range 4 {
		// The last 13 bytes are a page, and bytes that are left.
		q := slices.Concat(p, pageOf('t', place[:n]), make([]byte, 4-n))
		checkOpenError(t, "a shorter page", q, api.ErrForm)
	}
	checkOpenError(t, "a longer page", slices.Concat(p, pageOf('t', append(place, 0))), api.ErrForm)
	// Its sum goes ahead of its kind, and of the foot's.
	q := slices.Concat(p, pageOf('u', place))
	checkOpenError(t, "another kind, a wrong sum", turned(q, 8*len(q)-1), api.ErrSum)
	q = slices.Concat(p, pageOf('u', place))
	checkOpenError(t, "another kind, the foot's sum", turned(q, 8*len(pages)+50), api.ErrForm)
}

// P7.2: a last page that tells no place, or another one.
func TestOpenOfOtherPlaces(t *testing.T) {
	l := eventsFrom(0, 130, 1)
	pages, chunks := pagesOf(l, 64)
	p := slices.Concat(pages, pageOf('f', footOf(1, chunks)))
	size := len(p) + 13
	for place := range size + 30 {
		q := slices.Concat(p, lastOf(place))
		want := api.ErrForm
		if place < size {
			_, _, _, e := page.Read(q, place)
			want = max(want, e)
		}
		if place == len(pages) {
			opened(t, q)
		} else {
			checkOpenError(t, "another place", q, want)
		}
	}
	for _, place := range []int{1 << 20, 1<<31 - 1, 1 << 31, 1<<32 - 1} {
		checkOpenError(t, "no place", slices.Concat(p, lastOf(place)), api.ErrForm)
	}
}

// P7.2: page.Read's errors of the foot go ahead of what it is.
func TestOpenOfNoFoot(t *testing.T) {
	l := eventsFrom(0, 130, 1)
	pages, chunks := pagesOf(l, 64)
	foot := footOf(1, chunks)
	for kind := range 256 {
		q := slices.Concat(pages, pageOf(byte(kind), foot), lastOf(len(pages)))
		if kind == 'f' {
			opened(t, q)
			continue
		}
		checkOpenError(t, "another kind", q, api.ErrForm)
		checkOpenError(t, "another kind, a wrong sum", turned(q, 8*len(pages)+40), api.ErrSum)
	}
	for _, more := range [][]byte{{0}, []byte("more"), pageOf('f', foot), lastOf(len(pages))} {
		q := slices.Concat(pages, pageOf('f', foot), more, lastOf(len(pages)))
		checkOpenError(t, "bytes between the foot and the last page", q, api.ErrForm)
		checkOpenError(t, "bytes left in the foot", bytesOf(pages, append(slices.Clone(foot), more...)), api.ErrForm)
	}
	for n := range foot {
		checkOpenError(t, "a foot that is cut short", bytesOf(pages, foot[:n]), api.ErrForm)
	}
	// The last page's bytes are none of the foot's, but Read has them in sight.
	long := slices.Concat(pages, pageOf('f', foot), lastOf(len(pages)))
	long[len(pages)] += 13
	checkOpenError(t, "a foot over the last page", long, api.ErrSum)
	long[len(pages)]++
	checkOpenError(t, "a foot beyond the last page", long, api.ErrForm)
}

// forged are bytes of which the four from a place on are such that the sum of all is the one that is wanted.
func forged(p []byte, at int, sum uint32) []byte {
	base := crc32.ChecksumIEEE(p)
	// What each bit changes in the sum, by the highest bit of that, each made of several.
	var changes, of [32]uint32
	for bit := range 32 {
		change, made := crc32.ChecksumIEEE(turned(p, 8*at+bit))^base, uint32(1)<<bit
		for change != 0 && changes[bits.Len32(change)-1] != 0 {
			top := bits.Len32(change) - 1
			change, made = change^changes[top], made^of[top]
		}
		changes[bits.Len32(change)-1], of[bits.Len32(change)-1] = change, made
	}
	var flips uint32
	for left := base ^ sum; left != 0; {
		top := bits.Len32(left) - 1
		left, flips = left^changes[top], flips^of[top]
	}
	q := slices.Clone(p)
	binary.LittleEndian.PutUint32(q[at:], binary.LittleEndian.Uint32(q[at:])^flips)
	return q
}

// P7.2: a foot whose page is whole, but ends within the last page, of which it takes the first four bytes as its sum.
func TestOpenOfAFootThatEndsBehind(t *testing.T) {
	pages, chunks := pagesOf(eventsFrom(0, 3, 1), 3)
	chunks[0].Last = "four"
	foot := pageOf('f', footOf(1, chunks))
	foot = forged(foot[:len(foot)-4], len(foot)-8, 4)
	p := slices.Concat(pages, foot, lastOf(len(pages)))
	if _, _, behind, e := page.Read(p, len(pages)); behind != len(p)-9 || e != api.OK {
		t.Fatalf("the foot ends at %d of %d bytes, error %d", behind, len(p), e)
	}
	checkOpenError(t, "a foot that ends behind", p, api.ErrForm)
}

// P7.2: of how many partitions, of how many chunks.
func TestOpenOfNumbers(t *testing.T) {
	pages, chunks := pagesOf(eventsFrom(0, 130, 1), 64)
	body := footOf(0, chunks)[1:]
	for parts := range uint64(300) {
		p := bytesOf(pages, footOf(parts, chunks))
		if parts >= 1 && parts <= api.MaxParts {
			opened(t, p)
		} else {
			checkOpenError(t, "partitions", p, api.ErrForm)
		}
	}
	for _, parts := range []uint64{1 << 32, 1<<32 + 1, 1 << 63, 1<<63 + 1, math.MaxUint64} {
		checkOpenError(t, "partitions", bytesOf(pages, footOf(parts, chunks)), api.ErrForm)
	}
	for _, n := range []uint64{0, 1, 2, 4, 5, 1 << 20, 1 << 40, 1 << 63, math.MaxUint64} {
		foot := slices.Concat([]byte{1}, binary.AppendUvarint(nil, n), body[1:])
		checkOpenError(t, "other numbers of chunks", bytesOf(pages, foot), api.ErrForm)
	}
	checkOpenError(t, "no chunks", bytesOf(nil, []byte{1, 0}), api.ErrForm)
	checkOpenError(t, "no chunks, behind pages", bytesOf(pages, []byte{1, 0}), api.ErrForm)
	// Of a number there is a byte more than need be.
	checkOpenError(t, "a number laid longer", bytesOf(pages, slices.Concat([]byte{0x81, 0}, body)), api.ErrForm)
}

// wrongFeet are changes of what is told of three chunks of 4 rows each, from offset 100 on, which make no foot.
func wrongFeet(foot int) map[string]func(l []segment.Chunk) {
	return map[string]func(l []segment.Chunk){
		"no rows":                          func(l []segment.Chunk) { l[2].Rows = 0 },
		"no rows, and no offsets":          func(l []segment.Chunk) { l[2].Rows, l[2].To = 0, 107 },
		"no rows in the midst":             func(l []segment.Chunk) { l[1].Rows, l[1].To, l[2].From, l[2].To = 0, 103, 104, 107 },
		"too many rows":                    func(l []segment.Chunk) { l[2].Rows, l[2].To = 65, 108+64 },
		"too many rows at first":           func(l []segment.Chunk) { l[0].Rows, l[0].From = 65, 104-65 },
		"far too many rows":                func(l []segment.Chunk) { l[2].Rows, l[2].To = 1<<33, 108+1<<33-1 },
		"fewer rows than offsets":          func(l []segment.Chunk) { l[1].Rows = 3 },
		"more rows than offsets":           func(l []segment.Chunk) { l[1].Rows = 5 },
		"an offset more than rows":         func(l []segment.Chunk) { l[2].To++ },
		"an offset less than rows":         func(l []segment.Chunk) { l[2].To-- },
		"offsets that fall":                func(l []segment.Chunk) { l[0].From, l[0].To = 103, 100 },
		"a gap":                            func(l []segment.Chunk) { l[2].From, l[2].To = 109, 112 },
		"an offset twice":                  func(l []segment.Chunk) { l[2].From, l[2].To = 107, 110 },
		"the same offsets twice":           func(l []segment.Chunk) { l[1].From, l[1].To = 100, 103 },
		"chunks that change places":        func(l []segment.Chunk) { l[0], l[1] = l[1], l[0] },
		"offsets of chunks change places":  func(l []segment.Chunk) { l[1].From, l[1].To, l[2].From, l[2].To = 108, 111, 104, 107 },
		"pages change places":              func(l []segment.Chunk) { l[1].At, l[2].At = l[2].At, l[1].At },
		"pages from 1 on":                  func(l []segment.Chunk) { l[0].At = 1 },
		"pages from the second on":         func(l []segment.Chunk) { l[0].At, l[1].At = l[1].At, l[1].At+1 },
		"a page twice":                     func(l []segment.Chunk) { l[2].At = l[1].At },
		"the first page twice":             func(l []segment.Chunk) { l[1].At = 0 },
		"the first page at last":           func(l []segment.Chunk) { l[2].At = 0 },
		"a page where the foot stands":     func(l []segment.Chunk) { l[2].At = foot },
		"a page behind the foot":           func(l []segment.Chunk) { l[2].At = foot + 1 },
		"a page behind all bytes":          func(l []segment.Chunk) { l[2].At = 1 << 40 },
		"a page at no place of an int":     func(l []segment.Chunk) { l[2].At = -1 },
		"a key of more than MaxKey, first": func(l []segment.Chunk) { l[1].First = strings.Repeat("\x00", api.MaxKey+1) },
		"a key of more than MaxKey, last":  func(l []segment.Chunk) { l[1].Last = strings.Repeat("\xff", api.MaxKey+1) },
		"offsets up to MaxOffset": func(l []segment.Chunk) {
			for i := range l {
				l[i].From += api.MaxOffset - 111
				l[i].To += api.MaxOffset - 111
			}
		},
		"offsets that go round": func(l []segment.Chunk) {
			for i := range l {
				l[i].From -= 104
				l[i].To -= 104
			}
		},
		"offsets up to the last number": func(l []segment.Chunk) {
			for i := range l {
				l[i].From -= 112
				l[i].To -= 112
			}
		},
	}
}

// P7.2: feet that are none.
func TestOpenOfWrongFeet(t *testing.T) {
	pages, chunks := pagesOf(eventsFrom(100, 12, 2), 4)
	opened(t, bytesOf(pages, footOf(2, chunks)))
	for what, change := range wrongFeet(len(pages)) {
		wrong := slices.Clone(chunks)
		change(wrong)
		p := bytesOf(pages, footOf(2, wrong))
		checkOpenError(t, what, p, api.ErrForm)
		checkOpenError(t, what+", a wrong sum", turned(p, 8*len(pages)+40), api.ErrSum)
	}
}

// P7.2: what a foot may say all the same: the most rows, the last offsets, pages that end elsewhere, other times and keys.
func TestOpenOfRightFeet(t *testing.T) {
	pages, chunks := pagesOf(eventsFrom(100, 12, 2), 4)
	for what, change := range map[string]func(l []segment.Chunk){
		"the most rows": func(l []segment.Chunk) { l[2].Rows, l[2].To = 64, 108+63 },
		"the last offsets": func(l []segment.Chunk) {
			for i := range l {
				l[i].From += api.MaxOffset - 112
				l[i].To += api.MaxOffset - 112
			}
		},
		"pages one beside the other": func(l []segment.Chunk) { l[1].At, l[2].At = 1, 2 },
		"a page just ahead the foot": func(l []segment.Chunk) { l[2].At = len(pages) - 1 },
		"other times":                func(l []segment.Chunk) { l[1].Low, l[1].High = math.MinInt64, math.MaxInt64 },
		"other keys":                 func(l []segment.Chunk) { l[1].First, l[1].Last = "", strings.Repeat("\xff", api.MaxKey) },
	} {
		other := slices.Clone(chunks)
		change(other)
		s := opened(t, bytesOf(pages, footOf(2, other)))
		if from, to := s.Range(); !slices.Equal(s.Chunks(), other) || from != other[0].From || to != other[2].To+1 {
			t.Errorf("%s: chunks %+v, Range %d, %d", what, s.Chunks(), from, to)
		}
	}
}

// P7.2: Open reads the foot alone: what the pages of chunks are is told by Scan.
func TestOpenReadsNoChunks(t *testing.T) {
	pages, chunks := pagesOf(eventsFrom(0, 130, 2), 64)
	clear(pages)
	s := opened(t, bytesOf(pages, footOf(2, chunks)))
	if !slices.Equal(s.Chunks(), chunks) {
		t.Errorf("chunks %+v, not %+v", s.Chunks(), chunks)
	}
	_, _, _, want := page.Read(pages, 0)
	checkScanError(t, "pages of noughts", s, all, want)
}

// What Open is handed isn't kept, and what a segment answers is new.
func TestOpenMemory(t *testing.T) {
	l := eventsFrom(0, 130, 2)
	p := written(t, l, 2)
	_, chunks := pagesOf(l, 64)
	s, other := opened(t, p), opened(t, p)
	clear(p)
	clear(s.Chunks())
	_ = append(s.Chunks()[:1], segment.Chunk{Rows: 9})
	for _, s := range []*segment.Segment{s, other} {
		if from, to := s.Range(); !slices.Equal(s.Chunks(), chunks) || s.Parts() != 2 || from != 0 || to != 130 {
			t.Errorf("chunks %+v, Parts %d, Range %d, %d", s.Chunks(), s.Parts(), from, to)
		}
		checkScan(t, "bytes that were written over", s, all, l, 3)
	}
}

// P7.2, P7.3, P1: a nil Segment.
func TestNil(t *testing.T) {
	var s *segment.Segment
	if from, to := s.Range(); len(s.Chunks()) != 0 || s.Parts() != 0 || from != 0 || to != 0 {
		t.Errorf("chunks %+v, Parts %d, Range %d, %d", s.Chunks(), s.Parts(), from, to)
	}
	for _, f := range []segment.Filter{{}, all, {From: 5, To: 3, Low: 1, High: -1}} {
		checkScanError(t, "nil", s, f, api.ErrNone)
	}
}
