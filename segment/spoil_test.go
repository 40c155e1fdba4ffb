package segment_test

import (
	"math/rand/v2"
	"slices"
	"testing"

	"headrace/api"
	"headrace/event"
	"headrace/page"
	"headrace/segment"
)

// spoilt turns the bits from a place on, below another, of bytes.
func spoilt(p []byte, from, to int) []byte {
	q := slices.Clone(p)
	for bit := from; bit < to; bit++ {
		q[bit/8] ^= 1 << (bit % 8)
	}
	return q
}

// P7: each bit of a segment, and each 32 of a page, those of how many bytes it has apart, are told by ErrSum.
func TestSpoilt(t *testing.T) {
	l := eventsFrom(0, 10, 2)
	p := segmentOf(l, 2, 4)
	chunks := opened(t, p).Chunks()
	begins := []int{chunks[0].At, chunks[1].At, chunks[2].At}
	_, foot, _ := event.Read(p, chunks[2].At, 2)
	begins = append(begins, foot, len(p)-13, len(p))
	for i, begin := range begins[:5] {
		end := 8 * begins[i+1]
		for from := 8*begin + 32; from < end; from++ {
			for _, n := range []int{1, 2, 31, 32} {
				checkSpoilt(t, spoilt(p, from, min(from+n, end)), i, chunks)
			}
		}
	}
}

// checkSpoilt tells whether the error of page i is told: of the foot and the last page by Open, of the others by Scan of their chunk.
func checkSpoilt(t *testing.T, p []byte, i int, chunks []segment.Chunk) {
	t.Helper()
	if i >= len(chunks) {
		checkOpenError(t, "spoilt", p, api.ErrSum)
		return
	}
	s := opened(t, p)
	checkScanError(t, "spoilt", s, all, api.ErrSum)
	for k, c := range chunks {
		f := all
		f.From, f.To = c.From, c.To+1
		if _, n, e := s.Scan(f); k == i && e != api.ErrSum || k != i && (n != 1 || e != api.OK) {
			t.Errorf("page %d is spoilt: chunk %d: %d, error %d", i, k, n, e)
		}
	}
}

// P7, P1: any bit, those of how many bytes a page has too, is told by some error.
func TestTurnedBits(t *testing.T) {
	p := written(t, eventsFrom(0, 70, 2), 2)
	for bit := range 8 * len(p) {
		q := turned(p, bit)
		checkAnswers(t, q)
		if s, e := segment.Open(q); e == api.OK {
			if _, _, e = s.Scan(all); e == api.OK {
				t.Errorf("bit %d of %d bytes: no error", bit, len(p))
			}
		}
	}
}

// checkAnswers holds Open, and Scan of some filters, against the model, twice.
func checkAnswers(t *testing.T, p []byte) {
	t.Helper()
	m, want := modelOf(p)
	for range 2 {
		s, e := segment.Open(p)
		if e != want || (s == nil) != (want != api.OK) {
			t.Fatalf("Open(%x) = %v, %d, not error %d", p, s, e, want)
		}
		if want != api.OK {
			continue
		}
		last := len(m.chunks) - 1
		if from, to := s.Range(); from != m.chunks[0].From || to != m.chunks[last].To+1 || s.Parts() != m.parts || !slices.Equal(s.Chunks(), m.chunks) {
			t.Fatalf("Open(%x): Range %d, %d, Parts %d, chunks %+v, not as %+v", p, from, to, s.Parts(), s.Chunks(), m)
		}
		for _, c := range []segment.Chunk{m.chunks[0], m.chunks[last]} {
			checkModel(t, s, m, segment.Filter{From: c.From, To: c.To + 1, Low: c.Low, High: c.High})
		}
		checkModel(t, s, m, all)
	}
}

// P1, P2: bytes that are no segment, or nearly one, with sums that are right.
func TestAnyBytes(t *testing.T) {
	r := rand.New(rand.NewPCG(7, 7))
	read, wrong := 0, 0
	for range 20000 {
		pages, chunks := pagesOf(eventsFrom(r.Uint64N(50), 1+r.IntN(6), 2), 1+r.IntN(3))
		body := footOf(2, chunks)
		for range r.IntN(3) {
			body[r.IntN(len(body))] ^= 1 << r.IntN(8)
		}
		if r.IntN(4) == 0 {
			body = slices.Insert(body, r.IntN(len(body)+1), byte(r.Uint32()))
		}
		p := bytesOf(pages, body)
		if r.IntN(4) == 0 {
			p = turned(p, r.IntN(8*len(p)))
		}
		checkAnswers(t, p)
		checkAnswers(t, body)
		if s, e := segment.Open(p); e == api.OK {
			read++
			if _, _, e := s.Scan(all); e != api.OK {
				wrong++
			}
		}
	}
	if read < 1000 || wrong < 500 {
		t.Errorf("%d segments alone were read, of %d of them Scan told an error", read, wrong)
	}
}

func FuzzOpen(f *testing.F) {
	l := eventsFrom(3, 5, 2)
	pages, chunks := pagesOf(l, 2)
	f.Add([]byte{}, []byte{}, 0)
	f.Add(pages, footOf(2, chunks), len(pages))
	f.Add(segmentOf(l, 2, 2), footOf(1, chunks), 0)
	f.Fuzz(func(t *testing.T, pages, foot []byte, place int) {
		checkAnswers(t, pages)
		// With right sums about them the bytes come as far as the foot, and the events.
		checkAnswers(t, bytesOf(pages, foot))
		checkAnswers(t, bytesOf(page.Lay(nil, event.Kind, pages), foot))
		checkAnswers(t, slices.Concat(pages, pageOf('f', foot), lastOf(place)))
	})
}

func FuzzWrite(f *testing.F) {
	f.Add(uint64(0), 3, 1, 5, int64(0), "a")
	f.Add(uint64(api.MaxOffset-64), 65, 2, 64, int64(api.MaxTime), "key")
	f.Fuzz(func(t *testing.T, from uint64, n, parts, at int, time int64, key string) {
		if n < 0 || n > 2*api.MaxSeal {
			return
		}
		l := eventsFrom(from, n, 3)
		if at >= 0 && at < n {
			l[at].Time, l[at].Key = time, key
		}
		p, e := segment.Write(l, parts)
		if e == api.OK {
			checkScan(t, "what was written", opened(t, p), all, l, (n+api.MaxChunk-1)/api.MaxChunk)
		} else if len(p) != 0 {
			t.Errorf("%d bytes beside error %d", len(p), e)
		}
	})
}
