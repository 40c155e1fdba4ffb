package mark_test

import (
	"bytes"
	"encoding/binary"
	"math"
	"math/rand/v2"
	"testing"

	"headrace/api"
	"headrace/column"
	"headrace/mark"
)

// times are times at and about all edges, and beyond what an event may have.
var times = []int64{
	0, 1, -1, 63, 64, -64, -65, 1000, -1000,
	api.MaxTime, api.MaxTime - 1, api.MaxTime + 1, -api.MaxTime, -api.MaxTime + 1, -api.MaxTime - 1,
	math.MaxInt64, math.MinInt64,
}

// none are numbers of partitions that there aren't, of however many.
var none = []int{-1, -2, -api.MaxParts, math.MinInt, math.MinInt32, api.MaxParts, api.MaxParts + 1, 256, 1 << 31, 1 << 32, math.MaxInt}

// seen is what was seen, one time behind the other.
type seen struct {
	part int
	t    int64
}

// model is what marks are to tell, written apart from the program.
type model struct {
	parts int
	seen  []seen
}

// of is the greatest time of a partition.
func (m model) of(part int) (int64, bool) {
	if part < 0 || part >= m.parts {
		return 0, false
	}
	greatest, any := int64(0), false
	for _, x := range m.seen {
		if x.part == part && (!any || x.t > greatest) {
			greatest, any = x.t, true
		}
	}
	return greatest, any
}

// low is the least of all partitions' greatest times.
func (m model) low() (int64, bool) {
	least := int64(math.MaxInt64)
	for part := range m.parts {
		t, any := m.of(part)
		if !any {
			return 0, false
		}
		if t < least {
			least = t
		}
	}
	if m.parts == 0 {
		return 0, false
	}
	return least, true
}

// bytes is what is to be laid.
func (m model) bytes() []byte {
	p := binary.AppendUvarint(nil, uint64(m.parts))
	for part := range m.parts {
		t, any := m.of(part)
		if !any {
			p = append(p, 0)
			continue
		}
		p = binary.AppendVarint(append(p, 1), t)
	}
	return p
}

// newMarks are marks of so many partitions; of 0 the zero value.
func newMarks(t *testing.T, parts int) mark.Marks {
	t.Helper()
	if parts == 0 {
		return mark.Marks{}
	}
	m, e := mark.New(parts)
	if e != api.OK {
		t.Fatalf("New(%d): error %d", parts, e)
	}
	return m
}

// marks are what a model is of.
func (m model) marks(t *testing.T) mark.Marks {
	t.Helper()
	x := newMarks(t, m.parts)
	for _, s := range m.seen {
		x = x.See(s.part, s.t)
	}
	return x
}

// check holds all that marks tell against the model.
func check(t *testing.T, what string, got mark.Marks, want model) {
	t.Helper()
	for part := -2; part < api.MaxParts+3; part++ {
		checkOf(t, what, got, part, want)
	}
	for _, part := range none {
		checkOf(t, what, got, part, want)
	}
	x, ok := got.Low()
	if y, any := want.low(); x != y || ok != any {
		t.Fatalf("%s: Low = %d, %v; not %d, %v: %+v", what, x, ok, y, any, want)
	}
	if p := mark.Lay(nil, got); !bytes.Equal(p, want.bytes()) {
		t.Fatalf("%s: laid as %x, not %x: %+v", what, p, want.bytes(), want)
	}
}

func checkOf(t *testing.T, what string, got mark.Marks, part int, want model) {
	t.Helper()
	x, ok := got.Of(part)
	if y, any := want.of(part); x != y || ok != any {
		t.Fatalf("%s: Of(%d) = %d, %v; not %d, %v: %+v", what, part, x, ok, y, any, want)
	}
}

// someModel is what was seen anyhow, of partitions that there aren't, too.
func someModel(r *rand.Rand, parts, n int) model {
	m := model{parts: parts}
	for range n {
		x := seen{part: r.IntN(api.MaxParts+4) - 2, t: r.Int64N(21) - 10}
		if r.IntN(4) == 0 {
			x.t = times[r.IntN(len(times))]
		}
		m.seen = append(m.seen, x)
	}
	return m
}

// read is what Read reads of all of some bytes; false: it gave up, or bytes are left.
func read(p []byte) (mark.Marks, bool) {
	var m mark.Marks
	ok := column.Try(p, func(r *column.Reader) { m = mark.Read(r) })
	return m, ok
}

// gaveUp tells whether Read gave up within the bytes p.
func gaveUp(p []byte) bool {
	end := false
	column.Try(p, func(r *column.Reader) {
		mark.Read(r)
		end = true
	})
	return !end
}

// permuted goes through a list's orders, all of them.
func permuted[T any](l []T, f func(l []T)) {
	var from func(i int)
	from = func(i int) {
		if i == len(l) {
			f(l)
			return
		}
		for k := i; k < len(l); k++ {
			l[i], l[k] = l[k], l[i]
			from(i + 1)
			l[i], l[k] = l[k], l[i]
		}
	}
	from(0)
}
