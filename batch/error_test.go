package batch_test

import (
	"encoding/binary"
	"fmt"
	"math"
	"math/rand/v2"
	"slices"
	"testing"

	"headrace/api"
	"headrace/catalog"
	"headrace/column"
	"headrace/event"
	"headrace/files"
	"headrace/page"
	"headrace/segment"
	"headrace/sorter"
)

// checkRefused looks that Run answers this error, and that nothing that the store tells has changed.
func checkRefused(t *testing.T, what string, s *files.Store, cat *catalog.Catalog, c api.Config, p sorter.Plan, want api.Errno) {
	t.Helper()
	on := s.On()
	before, ops := "", s.Ops()
	if on {
		before = told(t, s)
	}
	checkError(t, what, s, cat, c, p, want)
	if s.Ops() != ops || s.On() != on || on && told(t, s) != before {
		t.Fatalf("%s: the store has changed: %q", what, s.List())
	}
}

// noForm are configs without their form, of two partitions and a cut of 10, but where that is what they haven't.
func noForm() []api.Config {
	var l []api.Config
	for _, change := range []func(c *api.Config){
		func(c *api.Config) { *c = api.Config{} },
		func(c *api.Config) { c.Kind = api.Session + 1 },
		func(c *api.Config) { c.Kind = 255 },
		func(c *api.Config) { c.Size = 0 },
		func(c *api.Config) { c.Size = -1 },
		func(c *api.Config) { c.Size = api.MaxSize + 1 },
		func(c *api.Config) { c.Step = 1 },
		func(c *api.Config) { c.Kind, c.Step = api.Sliding, 0 },
		func(c *api.Config) { c.Kind, c.Step = api.Sliding, -1 },
		func(c *api.Config) { c.Kind, c.Step = api.Sliding, c.Size+1 },
		func(c *api.Config) { c.Kind, c.Size, c.Step = api.Sliding, api.MaxShare+1, 1 },
		func(c *api.Config) { c.Kind, c.Step = api.Session, 1 },
		func(c *api.Config) { c.Late = api.MaxSize + 1 },
		func(c *api.Config) { c.Skew = -1 },
		func(c *api.Config) { c.Skew = api.MaxSize + 1 },
		func(c *api.Config) { c.Parts = 0 },
		func(c *api.Config) { c.Parts = -1 },
		func(c *api.Config) { c.Parts = api.MaxParts + 1 },
		func(c *api.Config) { c.Cut = api.MaxOffset + 1 },
		func(c *api.Config) { c.Cut = math.MaxUint64 },
	} {
		c := upTo(tumbling(10), 10)
		change(&c)
		l = append(l, c)
	}
	return l
}

// noPlans are plans without their form.
var noPlans = []sorter.Plan{
	{}, {Hold: 0, Fan: 2}, {Hold: -1, Fan: 2}, {Hold: api.MaxRows + 1, Fan: 2}, {Hold: math.MaxInt, Fan: 2},
	{Hold: 1, Fan: 1}, {Hold: 1, Fan: 0}, {Hold: 1, Fan: -2}, {Hold: 1, Fan: api.MaxFan + 1}, {Hold: math.MinInt, Fan: math.MinInt},
}

// twenty is a store with a catalog of twenty events of two partitions, and a file of a run that was left.
func twenty(t *testing.T) (*files.Store, *catalog.Catalog) {
	t.Helper()
	s := newStore(t, bigRoom)
	cat := archived(t, s, someEvents(rand.New(rand.NewPCG(15, 20)), 20, 2, 0, 20), 2, 10)
	put(t, s, "run.7", []byte("left"))
	return s, cat
}

// P15.1: no store, no catalog, neither, whatever else is wrong, the power too.
func TestErrNone(t *testing.T) {
	s, cat := twenty(t)
	off, _ := twenty(t)
	check(t, "Arm", off.Arm(1), api.OK)
	check(t, "Append", off.Append("x", nil), api.ErrCrash)
	for _, c := range append(noForm(), upTo(tumbling(10), 10), upTo(session(3), 21)) {
		for _, p := range append(noPlans, plan) {
			checkRefused(t, "no catalog", s, nil, c, p, api.ErrNone)
			checkError(t, "no store", nil, cat, c, p, api.ErrNone)
			checkError(t, "neither", nil, nil, c, p, api.ErrNone)
			checkRefused(t, "no catalog, and no power", off, nil, c, p, api.ErrNone)
		}
	}
}

// P15.1: a config without its form, a plan without its form, another number of partitions; ahead of a cut that is too far.
func TestErrArg(t *testing.T) {
	s, cat := twenty(t)
	for _, c := range noForm() {
		checkRefused(t, fmt.Sprintf("%+v", c), s, cat, c, plan, api.ErrArg)
		for _, p := range noPlans {
			checkRefused(t, fmt.Sprintf("%+v, %+v", c, p), s, cat, c, p, api.ErrArg)
		}
	}
	for _, cut := range []uint64{0, 10, 20, 21, api.MaxOffset} {
		for _, p := range noPlans {
			checkRefused(t, fmt.Sprintf("Cut %d, %+v", cut, p), s, cat, upTo(tumbling(10), cut), p, api.ErrArg)
		}
		for parts := 1; parts <= api.MaxParts; parts++ {
			c := upTo(session(5), cut)
			c.Parts = parts
			want := api.ErrArg
			if parts == 2 && cut > 20 {
				want = api.ErrGap
			}
			if parts != 2 || cut > 20 {
				checkRefused(t, fmt.Sprintf("Cut %d, %d partitions", cut, parts), s, cat, c, plan, want)
			}
		}
	}
}

// P15.1: each number of partitions of a catalog, and of a config.
func TestParts(t *testing.T) {
	for of := 1; of <= api.MaxParts; of++ {
		log := someEvents(rand.New(rand.NewPCG(15, 21)), 20, of, 0, 20)
		s := newStore(t, bigRoom)
		cat := archived(t, s, log, of)
		for parts := 1; parts <= api.MaxParts; parts++ {
			c := upTo(tumbling(10), 20)
			c.Parts = parts
			if parts == of {
				ran(t, "as many partitions", s, cat, c, plan, log)
				continue
			}
			checkRefused(t, fmt.Sprintf("%d partitions, not %d", parts, of), s, cat, c, plan, api.ErrArg)
		}
	}
}

// P15.1: a cut below the catalog's To, at it, and above it.
func TestErrGap(t *testing.T) {
	for _, n := range []int{0, 1, 20, 130} {
		log := someEvents(rand.New(rand.NewPCG(15, 22)), n, 2, 0, 20)
		s := newStore(t, bigRoom)
		cat := archived(t, s, log, 2, 10)
		put(t, s, "run.7", []byte("left"))
		for _, c := range configs() {
			for _, cut := range []uint64{uint64(n) + 1, uint64(n) + 2, 1000, api.MaxOffset - 1, api.MaxOffset} {
				checkRefused(t, fmt.Sprintf("Cut %d of %d", cut, n), s, cat, upTo(c, cut), plan, api.ErrGap)
			}
			ran(t, "at it", s, cat, upTo(c, uint64(n)), plan, log)
			ran(t, "below it", s, cat, upTo(c, uint64(max(n-1, 0))), plan, log)
			put(t, s, "run.7", []byte("left"))
		}
	}
}

// P15.1: a cut that is too far goes ahead of what the archive's files are, and of the power.
func TestErrGapGoesAhead(t *testing.T) {
	s, cat := twenty(t)
	check(t, "Spoil", s.Spoil("seg.0.10", 80), api.OK)
	check(t, "Delete", s.Delete("seg.10.20"), api.OK)
	checkRefused(t, "spoilt, and missing", s, cat, upTo(session(3), 21), plan, api.ErrGap)
	check(t, "Arm", s.Arm(1), api.OK)
	check(t, "Append", s.Append("x", nil), api.ErrCrash)
	checkRefused(t, "no power", s, cat, upTo(session(3), 21), plan, api.ErrGap)
	checkRefused(t, "no power, and no plan", s, cat, upTo(session(3), 21), sorter.Plan{}, api.ErrArg)
	checkRefused(t, "no power", s, cat, upTo(session(3), 20), plan, api.ErrCrash)
}

// P15.1: Scan's error: a segment's file isn't there, is another one's, is no segment; of segments that aren't below the cut it plays no part.
func TestScanErrors(t *testing.T) {
	log := someEvents(rand.New(rand.NewPCG(15, 23)), 40, 2, 0, 20)
	segmentOf := func(l []api.Event, parts int) []byte {
		p, e := segment.Write(l, parts)
		check(t, "segment.Write", e, api.OK)
		return p
	}
	good := segmentOf(log[10:30], 2)
	turned := slices.Clone(good)
	turned[20] ^= 1
	for _, x := range []struct {
		what string
		p    []byte
		want api.Errno
	}{
		{"no file", nil, api.ErrNone},
		{"an empty file", []byte{}, api.ErrForm},
		{"cut short", good[:12], api.ErrForm},
		{"without its beginning", good[1:], api.ErrForm},
		{"a turned bit", turned, api.ErrSum},
		{"another log", segmentOf(log[10:30], 3), api.ErrForm},
		{"other offsets", segmentOf(log[9:29], 2), api.ErrForm},
		{"fewer", segmentOf(log[10:29], 2), api.ErrForm},
		{"more", segmentOf(log[10:31], 2), api.ErrForm},
	} {
		s := newStore(t, bigRoom)
		cat := archived(t, s, log, 2, 10, 20)
		put(t, s, "run.7", []byte("left"))
		if x.p == nil {
			check(t, "Delete", s.Delete("seg.10.30"), api.OK)
		} else {
			put(t, s, "seg.10.30", x.p)
		}
		for _, c := range configs() {
			checkRefused(t, x.what, s, cat, upTo(c, 40), plan, x.want)
			checkRefused(t, x.what, s, cat, upTo(c, 11), plan, x.want)
		}
		for _, c := range configs() {
			ran(t, x.what+", below it", s, cat, upTo(c, 10), plan, log)
			ran(t, x.what+", and Cut 0", s, cat, upTo(c, 0), plan, log)
		}
	}
}

// P15.1: Scan's error goes ahead of Sort's.
func TestScanErrorGoesAhead(t *testing.T) {
	for _, gone := range []bool{false, true} {
		s, cat := twenty(t)
		want := api.ErrSum
		check(t, "Spoil", s.Spoil("seg.10.20", 80), api.OK)
		if gone {
			check(t, "Delete", s.Delete("seg.10.20"), api.OK)
			want = api.ErrNone
		}
		full := newStore(t, 1)
		put(t, full, "x", []byte{1})
		checkRefused(t, "no room", full, cat, upTo(session(3), 20), plan, want)
		checkError(t, "no room, below it", full, cat, upTo(session(3), 10), plan, api.ErrFull)
		check(t, "Arm", full.Arm(1), api.OK)
		check(t, "Append", full.Append("x", nil), api.ErrCrash)
		checkError(t, "no power to sort", full, cat, upTo(session(3), 20), plan, want)
		checkError(t, "no power to sort, below it", full, cat, upTo(session(3), 10), plan, api.ErrCrash)
	}
}

// hiding is a segment of two chunks whose foot tells times of one of them that it hasn't.
func hiding(l []api.Event, hidden int, low, high int64) []byte {
	p := event.Lay(nil, l[:64])
	places := []int{0, len(p)}
	p = event.Lay(p, l[64:])
	foot := column.Uint(column.Uint(nil, 2), 2)
	for i, rows := range [][]api.Event{l[:64], l[64:]} {
		for _, n := range []uint64{uint64(len(rows)), uint64(places[i]), rows[0].Offset, rows[len(rows)-1].Offset} {
			foot = column.Uint(foot, n)
		}
		if i == hidden {
			foot = column.Int(column.Int(foot, low), high)
		} else {
			foot = column.Int(column.Int(foot, 5), 5)
		}
		foot = column.Text(column.Text(foot, "k"), "k")
	}
	last := binary.LittleEndian.AppendUint32(nil, uint32(len(p)))
	return page.Lay(page.Lay(p, 'f', foot), 't', last)
}

// P15.1, P4: no event of the archive is passed over: a segment whose foot hides a chunk isn't as it must be.
func TestHidden(t *testing.T) {
	var log []api.Event
	for range 100 {
		log = append(log, at(0, 5, "k", 1))
	}
	log = logOf(log...)
	for hidden := range 2 {
		for _, x := range []struct{ low, high int64 }{
			{1, 0}, {math.MaxInt64, math.MinInt64},
			{2 * api.MaxTime, 2 * api.MaxTime}, {-2 * api.MaxTime, -2 * api.MaxTime}, {math.MaxInt64, math.MaxInt64}, {math.MinInt64, math.MinInt64},
		} {
			s := newStore(t, bigRoom)
			cat := archived(t, s, log, 2)
			put(t, s, "seg.0.100", hiding(log, hidden, 5, 5))
			ran(t, "nothing is hidden", s, cat, upTo(session(3), 100), plan, log)
			put(t, s, "seg.0.100", hiding(log, hidden, x.low, x.high))
			checkRefused(t, fmt.Sprintf("a chunk of the times %d to %d", x.low, x.high), s, cat, upTo(session(3), 100), plan, api.ErrForm)
		}
	}
}
