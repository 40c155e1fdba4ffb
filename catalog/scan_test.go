package catalog_test

import (
	"math"
	"math/rand/v2"
	"slices"
	"testing"

	"headrace/api"
	"headrace/segment"
)

// P8.2: the events that a filter wants, in their order, and as many chunks as the segments that meet it have to read.
func TestScan(t *testing.T) {
	m := model{2, stretches(2, 10, 200, 1, 64, 130)}
	s := newStore(t, bigRoom)
	c := sealed(t, s, 2, m.segs)
	const lowest, highest = math.MinInt64, math.MaxInt64
	for _, f := range []segment.Filter{
		all,
		{},
		{From: 5, To: 5, Low: lowest, High: highest},
		{From: 300, To: 5, Low: lowest, High: highest},
		{From: 405, To: math.MaxUint64, Low: lowest, High: highest},
		{To: 405, Low: 30, High: 29},
		{To: 405, Low: highest, High: lowest},
		{To: 405, Low: lowest, High: -21},
		{To: 405, Low: 1000, High: highest},
		{To: 10, Low: lowest, High: highest},
		{From: 10, To: 210, Low: lowest, High: highest},
		{From: 9, To: 11, Low: lowest, High: highest},
		{From: 10, To: 211, Low: lowest, High: highest},
		{From: 9, To: 10, Low: lowest, High: highest},
		{From: 210, To: 211, Low: lowest, High: highest},
		{From: 70, To: 80, Low: lowest, High: highest},
		{To: 405, Low: 10, High: 10},
		{From: math.MaxUint64, To: math.MaxUint64, Low: lowest, High: highest},
	} {
		checkScan(t, c, m, f)
	}
}

// P8.2, P2: whatever is wanted.
func TestScanAny(t *testing.T) {
	r := rand.New(rand.NewPCG(1, 2))
	m := model{3, stretches(3, 65, 10, 64, 1, 129, 30)}
	c := sealed(t, newStore(t, bigRoom), 3, m.segs)
	for range 3000 {
		f := segment.Filter{From: r.Uint64N(310), Low: r.Int64N(360) - 30}
		f.To, f.High = f.From+r.Uint64N(120)-10, f.Low+r.Int64N(120)-10
		checkScan(t, c, m, f)
	}
}

// P8.2: of a segment's last and first offsets, of its last and first times, one is wanted, or just none.
func TestScanEdges(t *testing.T) {
	m := model{1, stretches(1, 10, 20, 10)}
	s := newStore(t, bigRoom)
	c := sealed(t, s, 1, m.segs)
	e := m.entries()[1]
	check(t, "Delete", s.Delete("seg.10.30"), api.OK)
	wide := segment.Filter{From: 10, To: 30, Low: e.Low, High: e.High}
	for _, change := range []func(f *segment.Filter){
		func(f *segment.Filter) { f.From = e.To - 1 },
		func(f *segment.Filter) { f.To = e.From + 1 },
		func(f *segment.Filter) { f.Low = e.High },
		func(f *segment.Filter) { f.High = e.Low },
	} {
		f := wide
		change(&f)
		checkScanError(t, "it meets", c, f, api.ErrNone)
	}
	// Segments that don't meet the filter aren't read: that one isn't there.
	for _, f := range []segment.Filter{
		{From: e.To, To: 40, Low: all.Low, High: all.High},
		{From: 0, To: e.From, Low: all.Low, High: all.High},
		{From: 0, To: 40, Low: e.High + 1, High: e.High + 1},
		{From: 0, To: 40, Low: e.Low - 1, High: e.Low - 1},
		{From: 20, To: 20, Low: all.Low, High: all.High},
		{From: 10, To: 30, Low: e.High, High: e.Low},
	} {
		checkScan(t, c, m, f)
	}
}

// faults are what may be wrong with the segment of the offsets 10 to 29, and the errors that tell so.
func faults(t *testing.T) map[string]struct {
	p    []byte
	want api.Errno
} {
	good := written(t, eventsFrom(10, 20, 2), 2)
	turned := func(i int) []byte {
		p := slices.Clone(good)
		p[i] ^= 4
		return p
	}
	return map[string]struct {
		p    []byte
		want api.Errno
	}{
		"empty":                   {nil, api.ErrForm},
		"cut short":               {good[1:], api.ErrForm},
		"a turned bit, first":     {turned(20), api.ErrSum},
		"a turned bit, last":      {turned(len(good) - 1), api.ErrSum},
		"another log":             {written(t, eventsFrom(10, 20, 1), 1), api.ErrForm},
		"a log of more":           {written(t, eventsFrom(10, 20, 2), 3), api.ErrForm},
		"offsets that begin soon": {written(t, eventsFrom(9, 21, 2), 2), api.ErrForm},
		"offsets that begin late": {written(t, eventsFrom(11, 19, 2), 2), api.ErrForm},
		"offsets that end late":   {written(t, eventsFrom(10, 21, 2), 2), api.ErrForm},
		"offsets that end early":  {written(t, eventsFrom(10, 19, 2), 2), api.ErrForm},
		"offsets ahead":           {written(t, eventsFrom(0, 20, 2), 2), api.ErrForm},
		"all segments":            {written(t, eventsFrom(0, 40, 2), 2), api.ErrForm},
	}
}

// P8.2: a segment that isn't what it must be, of a file that is there.
func TestScanErrors(t *testing.T) {
	for what, fault := range faults(t) {
		s := newStore(t, bigRoom)
		m := model{2, stretches(2, 10, 20, 10)}
		c := sealed(t, s, 2, m.segs)
		put(t, s, "seg.10.30", fault.p)
		checkScanError(t, what, c, all, fault.want)
		checkScanError(t, what, c, segment.Filter{From: 10, To: 11, Low: all.Low, High: all.High}, fault.want)
		checkScan(t, c, m, segment.Filter{From: 0, To: 10, Low: all.Low, High: all.High})
		checkScan(t, c, m, segment.Filter{From: 30, To: 99, Low: all.Low, High: all.High})
		for i := range 2 {
			checkRefused(t, what, s, c, func() api.Errno { return c.Compact(i) }, fault.want)
		}
	}
}

// P8.2: of a chunk that isn't wanted a segment's faults aren't told.
func TestScanReadsWhatIsWanted(t *testing.T) {
	s := newStore(t, bigRoom)
	m := model{1, stretches(1, 130)}
	c := sealed(t, s, 1, m.segs)
	check(t, "Spoil", s.Spoil("seg.0.130", 8*20), api.OK)
	checkScanError(t, "the first chunk", c, all, api.ErrSum)
	checkScan(t, c, m, segment.Filter{From: 64, To: 130, Low: all.Low, High: all.High})
}

// P8.2 and the order of errors: the store's ahead of segments', these ahead of what a segment isn't of; of segments' the least.
func TestScanErrorsInOrder(t *testing.T) {
	l := faults(t)
	sum, form, other := l["a turned bit, first"].p, l["cut short"].p, l["all segments"].p
	for _, x := range []struct {
		what   string
		first  []byte
		second []byte
		want   api.Errno
	}{
		{"a spoilt one ahead of a missing one", sum, nil, api.ErrNone},
		{"another one ahead of a missing one", other, nil, api.ErrNone},
		{"another one ahead of a spoilt one", other, sum, api.ErrSum},
		{"a spoilt one ahead of another one", sum, other, api.ErrSum},
		{"a spoilt one ahead of one cut short", sum, form, api.ErrForm},
		{"one cut short ahead of a spoilt one", form, sum, api.ErrForm},
	} {
		s := newStore(t, bigRoom)
		c := sealed(t, s, 2, stretches(2, 10, 20, 10))
		put(t, s, "seg.0.10", x.first)
		if x.second == nil {
			check(t, "Delete", s.Delete("seg.10.30"), api.OK)
		} else {
			put(t, s, "seg.10.30", x.second)
		}
		checkScanError(t, x.what, c, all, x.want)
		check(t, x.what+": Compact", c.Compact(0), x.want)
	}
	// A spoilt chunk of a segment that is of other offsets, too.
	s := newStore(t, bigRoom)
	c := sealed(t, s, 2, stretches(2, 10, 20))
	put(t, s, "seg.10.30", slices.Clone(other))
	check(t, "Spoil", s.Spoil("seg.10.30", 8*20), api.OK)
	checkScanError(t, "spoilt, and of other offsets", c, all, api.ErrSum)
}

// Scan changes nothing in the store, and takes no operation.
func TestScanChangesNothing(t *testing.T) {
	s := newStore(t, bigRoom)
	m := model{1, stretches(1, 10, 20)}
	c := sealed(t, s, 1, m.segs)
	before, ops := told(t, s), s.Ops()
	checkScan(t, c, m, all)
	if told(t, s) != before || s.Ops() != ops {
		t.Error("the store has changed")
	}
}

// What Scan answers is new.
func TestScanMemory(t *testing.T) {
	s := newStore(t, bigRoom)
	m := model{1, stretches(1, 70, 20)}
	c := sealed(t, s, 1, m.segs)
	l, _, e := c.Scan(all)
	check(t, "Scan", e, api.OK)
	clear(l[:cap(l)])
	checkAll(t, "written over", s, c, m)
}
