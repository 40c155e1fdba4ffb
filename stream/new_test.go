package stream_test

import (
	"fmt"
	"math"
	"math/rand/v2"
	"slices"
	"testing"

	"headrace/agg"
	"headrace/api"
	"headrace/batch"
	"headrace/mark"
	"headrace/stream"
	"headrace/whole"
)

// newZero is an operator of a zero Boot.
func newZero(t *testing.T, c api.Config) *stream.Operator {
	t.Helper()
	o, e := stream.New(c, batch.Boot{})
	check(t, fmt.Sprintf("New(%+v)", c), e, api.OK)
	return o
}

// formless are configs without window.Form, each for one thing.
func formless() []api.Config {
	ok := api.Config{Kind: api.Tumbling, Size: 10, Parts: 1}
	var l []api.Config
	for _, change := range []func(c *api.Config){
		func(c *api.Config) { *c = api.Config{} },
		func(c *api.Config) { c.Kind = api.Session + 1 },
		func(c *api.Config) { c.Kind = 255 },
		func(c *api.Config) { c.Size = 0 },
		func(c *api.Config) { c.Size = -1 },
		func(c *api.Config) { c.Size = api.MaxSize + 1 },
		func(c *api.Config) { c.Size = math.MaxInt64 },
		func(c *api.Config) { c.Step = 1 },
		func(c *api.Config) { c.Kind, c.Step = api.Session, 10 },
		func(c *api.Config) { c.Kind = api.Sliding },
		func(c *api.Config) { c.Kind, c.Step = api.Sliding, 11 },
		func(c *api.Config) { c.Kind, c.Size, c.Step = api.Sliding, 17, 1 },
		func(c *api.Config) { c.Late = api.MaxSize + 1 },
		func(c *api.Config) { c.Skew = -1 },
		func(c *api.Config) { c.Skew = api.MaxSize + 1 },
		func(c *api.Config) { c.Parts = 0 },
		func(c *api.Config) { c.Parts = -1 },
		func(c *api.Config) { c.Parts = api.MaxParts + 1 },
		func(c *api.Config) { c.Parts = math.MaxInt },
		func(c *api.Config) { c.Cut = api.MaxOffset + 1 },
		func(c *api.Config) { c.Cut = math.MaxUint64 },
	} {
		c := ok
		change(&c)
		l = append(l, c)
	}
	return l
}

// P17.1: New of a config without window.Form.
func TestNewOfNoConfig(t *testing.T) {
	log := someLog(rand.New(rand.NewPCG(17, 1)), 20, 1)
	for _, b := range []batch.Boot{{}, bootOf(t, upTo(tumbling(10), 20), log)} {
		for _, c := range formless() {
			o, e := stream.New(c, b)
			if o != nil || e != api.ErrArg {
				t.Errorf("New(%+v) = %v, error %d", c, o, e)
			}
		}
	}
}

// upTo is a config whose archive ends at a cut.
func upTo(c api.Config, cut int) api.Config {
	c.Cut = uint64(cut)
	return c
}

// P17.1: an operator of a zero Boot, of any config: nothing was told, nothing is seen, nothing is held.
func TestNewOfZeroBoot(t *testing.T) {
	for _, c := range configs() {
		for _, cut := range []uint64{0, 1, 1000, api.MaxOffset} {
			c.Cut = cut
			o := newZero(t, c)
			if x, ok := o.Mark(); x != 0 || ok {
				t.Errorf("%+v: Mark = %d, %v", c, x, ok)
			}
			if o.Late() != 0 || o.Ended() || o.Config() != c || o.Open() != 0 || len(o.Out()) > 0 {
				t.Errorf("%+v: Late %d, Ended %v, Config %+v, Open %d", c, o.Late(), o.Ended(), o.Config(), o.Open())
			}
			for _, offset := range []uint64{0, 1, 999, 1000, api.MaxOffset - 1, api.MaxOffset, math.MaxUint64} {
				if o.Seen(offset) {
					t.Errorf("%+v: Seen(%d)", c, offset)
				}
			}
			check(t, "In below Cut", o.In(api.Event{Offset: cut - 1}), map[bool]api.Errno{true: api.ErrStale, false: api.ErrForm}[cut > 0])
			if cut < api.MaxOffset {
				check(t, "In at Cut", o.In(api.Event{Offset: cut}), api.OK)
			}
			check(t, "End", o.End(), api.OK)
			if n := len(o.Out()); (n > 0) != (cut < api.MaxOffset) {
				t.Errorf("%+v: %d told behind End", c, n)
			}
		}
	}
}

// P17.1: each partition must be seen, ahead of a mark.
func TestMarkOfPartitions(t *testing.T) {
	for parts := 1; parts <= api.MaxParts; parts++ {
		o := newZero(t, with(tumbling(10), 0, 4, parts))
		for part := range parts {
			if x, ok := o.Mark(); x != 0 || ok {
				t.Errorf("%d of %d partitions: Mark = %d, %v", part, parts, x, ok)
			}
			check(t, "In", o.In(api.Event{Offset: uint64(part), Part: part, Time: int64(-20 - part)}), api.OK)
		}
		if x, ok := o.Mark(); x != int64(-20-parts+1-4) || !ok {
			t.Errorf("%d partitions: Mark = %d, %v", parts, x, ok)
		}
	}
}

// P17.1, P17.2: boots that batch.Run answers: what is told at once, the mark, what is held.
func TestNewOfBoots(t *testing.T) {
	for seed := range uint64(300) {
		r := rand.New(rand.NewPCG(17, seed))
		c := anyConfig(r)
		if seed < uint64(len(configs())) {
			c = configs()[seed]
		}
		o, m := newBoth(t, c, someLog(r, r.IntN(100), c.Parts))
		checkOut(t, c, o, m)
		for offset := range m.c.Cut {
			check(t, "In below Cut", o.In(api.Event{Offset: offset}), api.ErrStale)
			if o.Seen(offset) {
				t.Errorf("Seen(%d) below Cut", offset)
			}
		}
		check(t, "End", o.End(), m.end())
		checkOut(t, c, o, m)
	}
}

// P17.1: the archive is seen and counted, however late its events are, and told by windows, then by keys.
func TestNewWrittenOut(t *testing.T) {
	for _, x := range []struct {
		c                api.Config
		told, open, tail string
	}{
		{tumbling(10), "+0 b[-10 0) 1 1, +0 a[0 10) 2 6, +0 b[0 10) 1 2", "1", "+0 a[20 30) 1 16, +0 c[20 30) 1 32"},
		{with(tumbling(10), 0, 15, 1), "+0 b[-10 0) 1 1", "3", "+0 a[0 10) 2 6, +0 b[0 10) 1 2, +0 a[20 30) 1 16, +0 c[20 30) 1 32"},
		{with(tumbling(10), 10, 0, 1), "+0 b[-10 0) 1 1, +0 a[0 10) 2 6, +0 b[0 10) 1 2", "3", "+0 a[20 30) 1 16, +0 c[20 30) 1 32"},
		{session(5), "+0 b[-3 2) 1 1, +0 b[5 10) 1 2, +0 a[4 13) 2 6", "1", "+0 a[20 25) 1 16, +0 c[20 25) 1 32"},
	} {
		log := []api.Event{
			{Time: 20, Key: "a", Val: 16}, {Time: 4, Key: "a", Val: 4}, {Time: -3, Key: "b", Val: 1},
			{Time: 8, Key: "a", Val: 2}, {Time: 5, Key: "b", Val: 2},
		}
		for i := range log {
			log[i].Offset = uint64(i)
		}
		c := upTo(x.c, len(log))
		o, e := stream.New(c, bootOf(t, c, log))
		check(t, "New", e, api.OK)
		if got := briefly(o.Out()); got != x.told || fmt.Sprint(o.Open()) != x.open || o.Late() != 0 {
			t.Errorf("%+v: told %s, not %s; %d held, not %s", x.c, got, x.told, o.Open(), x.open)
		}
		check(t, "In", o.In(api.Event{Offset: 5, Time: 20, Key: "c", Val: 32}), api.OK)
		if got := briefly(o.Out()); got != "" {
			t.Errorf("%+v: told %s", x.c, got)
		}
		check(t, "End", o.End(), api.OK)
		if got := briefly(o.Out()); got != x.tail {
			t.Errorf("%+v: told behind End %s, not %s", x.c, got, x.tail)
		}
	}
}

// P2: a boot isn't changed, and may be written over.
func TestBootIsNotKept(t *testing.T) {
	for seed := range uint64(40) {
		r := rand.New(rand.NewPCG(17, seed))
		c := anyConfig(r)
		log := someLog(r, 60, c.Parts)
		c.Cut = 40
		b, before := bootOf(t, c, log[:40]), bootOf(t, c, log[:40])
		o, e := stream.New(c, b)
		check(t, "New", e, api.OK)
		if !slices.EqualFunc(b.Groups, before.Groups, sameGroup) {
			t.Fatalf("seed %d: the boot was changed", seed)
		}
		var junk agg.State
		for i := range b.Groups {
			b.Groups[i] = whole.Group{Key: "written over", W: api.Window{Start: 7}, S: junk.Add(9)}
		}
		m := newModel(c, log[:40])
		for _, e := range log[40:] {
			check(t, "In", o.In(e), m.in(e))
		}
		check(t, "End", o.End(), m.end())
		checkOut(t, "written over", o, m)
	}
}

func sameGroup(a, b whole.Group) bool {
	return a.Key == b.Key && a.W == b.W && string(agg.Lay(nil, a.S)) == string(agg.Lay(nil, b.S))
}

// oddBoots are boots that batch.Run never answers.
func oddBoots() []batch.Boot {
	var s agg.State
	value := s.Add(1)
	wide, _ := mark.New(api.MaxParts)
	for part := range api.MaxParts {
		wide = wide.See(part, int64(part)*1000)
	}
	narrow, _ := mark.New(1)
	var groups []whole.Group
	for _, key := range []string{"b", "a", "", longest + longest, "a"} {
		for _, w := range []api.Window{
			{Start: 0, End: 10}, {Start: 3, End: 8}, {Start: 10, End: 0}, {}, {Start: math.MinInt64, End: math.MaxInt64},
			{Start: math.MaxInt64, End: math.MinInt64}, {Start: 7, End: 9}, {Start: -5, End: 1}, {Start: 0, End: 10}, {Start: -api.MaxTime, End: api.MaxTime},
			{Start: math.MinInt64, End: math.MinInt64}, {Start: math.MaxInt64, End: math.MaxInt64}, {Start: 8, End: 30},
		} {
			groups = append(groups, whole.Group{Key: key, W: w, S: value}, whole.Group{Key: key, W: w})
		}
	}
	return []batch.Boot{
		{Groups: groups}, {Groups: groups, Marks: wide, N: -1}, {Groups: groups, Marks: narrow.See(0, math.MinInt64)},
		{Groups: groups, Marks: narrow.See(0, math.MaxInt64)}, {Groups: groups, Marks: narrow.See(0, 100)},
		{Groups: groups[:1], Marks: wide}, {Marks: wide, N: math.MaxInt}, {Marks: narrow},
	}
}

// P1: no boot makes a call panic, nor go on without end; behind each, Save ends, and so does Load.
func TestOddBoots(t *testing.T) {
	r := rand.New(rand.NewPCG(17, 2))
	for _, c := range configs() {
		for _, b := range oddBoots() {
			c.Parts = 1 + r.IntN(2)
			o, e := stream.New(c, b)
			check(t, "New", e, api.OK)
			for i := range 30 {
				o.In(api.Event{Offset: uint64(i), Part: i % 2, Time: r.Int64N(60) - 20, Key: []string{"", "a", "b"}[r.IntN(3)], Val: 1})
				o.Open()
				stream.Load(o.Save())
			}
			o.In(api.Event{Offset: 99, Time: api.MaxTime})
			o.In(api.Event{Offset: 98, Time: api.MaxTime, Part: 1})
			check(t, "End", o.End(), api.OK)
			o.Out()
			stream.Load(o.Save())
		}
	}
}
