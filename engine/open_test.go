package engine_test

import (
	"fmt"
	"math"
	"math/rand/v2"
	"slices"
	"testing"

	"headrace/api"
	"headrace/batch"
	"headrace/catalog"
	"headrace/commit"
	"headrace/engine"
	"headrace/files"
	"headrace/sorter"
	"headrace/stream"
)

// P19.1: the chapter's example: two events, Commit, one event, a fall, Open: two were Seen.
func TestExample(t *testing.T) {
	s := newStore(t, bigRoom)
	c := tumbling(10)
	x := opened(t, "Open", s, c)
	for i, e := range logOf(at(1, "a", 1), at(2, "a", 2), at(3, "a", 3)) {
		check(t, "In", x.In(e), api.OK)
		if i == 1 {
			check(t, "Commit", x.Commit(), api.OK)
		}
	}
	check(t, "Restart", s.Restart(nil), api.OK)
	o := opened(t, "Open", s, c).Operator()
	if !o.Seen(0) || !o.Seen(1) || o.Seen(2) {
		t.Errorf("Seen: %v, %v, %v", o.Seen(0), o.Seen(1), o.Seen(2))
	}
}

// P19.1: what is told of an archive, and of what comes, written out.
func TestWrittenOut(t *testing.T) {
	log := logOf(at(1, "a", 1.5), at(12, "b", 2), at(3, "a", 4), at(25, "a", 8), at(4, "a", 16), at(7, "b", 32))
	s := newStore(t, bigRoom)
	c := upTo(with(tumbling(10), 20, 0, 1), 2)
	archive(t, s, log[:2], 1, 1)
	x := opened(t, "Open", s, c)
	look := func(commits uint64, told, waiting string) {
		t.Helper()
		if a, b := briefly(x.Ledger().All()), briefly(x.Waiting()); x.Commits() != commits || a != told || b != waiting {
			t.Errorf("%d commits: %s; waiting: %s", x.Commits(), a, b)
		}
	}
	look(1, "+0 a[0 10) 1 1.5", "")
	check(t, "In", x.In(log[1]), api.ErrStale)
	check(t, "In", x.In(log[2]), api.OK)
	check(t, "In", x.In(log[2]), api.ErrTwice)
	check(t, "In", x.In(log[3]), api.OK)
	look(1, "+0 a[0 10) 1 1.5", "-0 a[0 10) 1 1.5, +1 a[0 10) 2 5.5, +0 b[10 20) 1 2")
	check(t, "Commit", x.Commit(), api.OK)
	first := "+0 a[0 10) 1 1.5, -0 a[0 10) 1 1.5, +1 a[0 10) 2 5.5, +0 b[10 20) 1 2"
	look(2, first, "")
	check(t, "In", x.In(log[4]), api.OK)
	check(t, "In", x.In(log[5]), api.OK)
	check(t, "End", x.End(), api.OK)
	last := "-1 a[0 10) 2 5.5, +2 a[0 10) 3 21.5, +0 b[0 10) 1 32, +0 a[20 30) 1 8"
	look(2, first, last)
	check(t, "Commit", x.Commit(), api.OK)
	look(3, first+", "+last, "")
	if l := s.List(); !slices.Equal(l, []string{"cat", "man", "out.1", "out.2", "out.3", "seg.0.1", "seg.1.2", "state.3"}) {
		t.Errorf("files %q", l)
	}
}

// formless are configs without window.Form, each for one thing.
func formless() []api.Config {
	var l []api.Config
	for _, change := range []func(c *api.Config){
		func(c *api.Config) { *c = api.Config{} },
		func(c *api.Config) { c.Kind = api.Session + 1 },
		func(c *api.Config) { c.Kind = 255 },
		func(c *api.Config) { c.Size = 0 },
		func(c *api.Config) { c.Size = -1 },
		func(c *api.Config) { c.Size = api.MaxSize + 1 },
		func(c *api.Config) { c.Step = 1 },
		func(c *api.Config) { c.Kind, c.Step = api.Session, 10 },
		func(c *api.Config) { c.Kind = api.Sliding },
		func(c *api.Config) { c.Kind, c.Step = api.Sliding, 11 },
		func(c *api.Config) { c.Kind, c.Size, c.Step = api.Sliding, api.MaxShare+1, 1 },
		func(c *api.Config) { c.Late = api.MaxSize + 1 },
		func(c *api.Config) { c.Skew = -1 },
		func(c *api.Config) { c.Skew = api.MaxSize + 1 },
		func(c *api.Config) { c.Parts = 0 },
		func(c *api.Config) { c.Parts = -1 },
		func(c *api.Config) { c.Parts = api.MaxParts + 1 },
		func(c *api.Config) { c.Cut = api.MaxOffset + 1 },
		func(c *api.Config) { c.Cut = math.MaxUint64 },
	} {
		c := tumbling(10)
		change(&c)
		l = append(l, c)
	}
	return l
}

// noPlans are plans without their form, atLimits such with it.
var (
	noPlans = []sorter.Plan{
		{}, {Hold: 0, Fan: 2}, {Hold: -1, Fan: 2}, {Hold: api.MaxRows + 1, Fan: 2}, {Hold: math.MaxInt, Fan: 2},
		{Hold: 1, Fan: 1}, {Hold: 1, Fan: 0}, {Hold: 1, Fan: -2}, {Hold: 1, Fan: api.MaxFan + 1}, {Hold: math.MinInt, Fan: math.MinInt},
	}
	atLimits = []sorter.Plan{{Hold: 1, Fan: 2}, {Hold: 1, Fan: api.MaxFan}, {Hold: api.MaxRows, Fan: 2}, {Hold: api.MaxRows, Fan: api.MaxFan}}
)

// stores are stores of all that Open may come upon: nothing, an archive, commits, spoilt ones, what was left, no power.
func stores(t *testing.T) map[string]*files.Store {
	t.Helper()
	log := someLog(rand.New(rand.NewPCG(19, 1)), 20, 1)
	l := map[string]*files.Store{}
	for _, name := range []string{"empty", "archive", "commits", "man", "cat", "left", "off"} {
		s := newStore(t, bigRoom)
		l[name] = s
		if name == "empty" {
			continue
		}
		archive(t, s, log, 1, 10)
		if name != "archive" && name != "cat" {
			opened(t, name, s, upTo(tumbling(10), 15))
		}
	}
	for _, name := range []string{"man", "cat"} {
		check(t, "Spoil", l[name].Spoil(name, 50), api.OK)
	}
	for _, name := range []string{"man.tmp", "out.2", "state.2", "run.0", "cat.tmp", "seg.3.4"} {
		put(t, l["left"], name, []byte("left"))
	}
	switchOff(t, l["off"])
	return l
}

// P19.1: no store, whatever else is wrong.
func TestErrNone(t *testing.T) {
	for _, c := range append(formless(), configs()...) {
		for _, p := range append(noPlans, plan) {
			if x, e := engine.Open(nil, c, p); x != nil || e != api.ErrNone {
				t.Errorf("Open of no store, %+v, %+v = %v, error %d", c, p, x, e)
			}
		}
	}
}

// P19.1: a config without its form, a plan without its form, ahead of all that the store is; nothing is done then.
func TestErrArg(t *testing.T) {
	for name, s := range stores(t) {
		for _, c := range formless() {
			for _, p := range append(noPlans, plan) {
				checkUnchanged(t, name, s, func() { checkNotOpened(t, fmt.Sprint(name, c, p), s, c, p, api.ErrArg) })
			}
		}
		for _, c := range append(configs(), upTo(tumbling(10), 15), upTo(tumbling(10), 16), upTo(tumbling(10), 1000)) {
			for _, p := range noPlans {
				checkUnchanged(t, name, s, func() { checkNotOpened(t, fmt.Sprint(name, c, p), s, c, p, api.ErrArg) })
			}
		}
	}
}

// P19.1: plans at their limits come to the same.
func TestPlans(t *testing.T) {
	log := someLog(rand.New(rand.NewPCG(19, 2)), 60, 2)
	c := upTo(with(session(5), 3, 0, 2), 50)
	var want map[string]string
	for _, p := range append(atLimits, plan) {
		s := newStore(t, bigRoom)
		archive(t, s, log, 2, 20)
		x, e := engine.Open(s, c, p)
		check(t, p, e, api.OK)
		m := newModel(t, c, log[:50])
		m.commit()
		checkEngine(t, p, x, m)
		checkFiles(t, p, s, m)
		if want == nil {
			want = filesOf(t, s)
		}
		if fmt.Sprint(filesOf(t, s)) != fmt.Sprint(want) {
			t.Errorf("%+v: other files", p)
		}
	}
}

// P19.1: an empty store: nothing is told, and that is committed; no file more is made.
func TestEmptyStore(t *testing.T) {
	for _, c := range configs() {
		s := newStore(t, bigRoom)
		x, m := both(t, c, s, c, nil)
		if l := s.List(); !slices.Equal(l, []string{"man", "out.1", "state.1"}) {
			t.Errorf("%+v: files %q", c, l)
		}
		if x.Commits() != 1 || x.Ledger().Len() > 0 || len(x.Waiting()) > 0 || x.Operator().Config() != c {
			t.Errorf("%+v: %d commits, %d changes", c, x.Commits(), x.Ledger().Len())
		}
		checkIn(t, c, x, m, api.Event{Time: 4, Val: 1})
		checkEngine(t, c, x, m)
	}
}

// P19.1: an archive, and no commit: each kind of config, archives of one segment and of several, compacted or not, a cut below what is sealed, and at it.
func TestArchives(t *testing.T) {
	r := rand.New(rand.NewPCG(19, 3))
	for i, c := range configs() {
		log := someLog(r, 40, c.Parts)
		for _, sealed := range []int{0, 1, 30, 40} {
			for _, cut := range []int{0, 1, 10, 29, 30, 40} {
				c := upTo(c, cut)
				s := newStore(t, bigRoom)
				archive(t, s, log[:sealed], c.Parts, 10, 1+i)
				what := fmt.Sprintf("%+v, %d sealed", c, sealed)
				if cut > sealed {
					checkNotOpened(t, what, s, c, plan, api.ErrGap)
					continue
				}
				if i%2 == 0 && sealed >= 30 {
					compact(t, s, c.Parts)
				}
				x := opened(t, what, s, c)
				m := newModel(t, c, log[:cut])
				m.commit()
				checkEngine(t, what, x, m)
				checkFiles(t, what, s, m)
			}
		}
	}
}

// compact has the first two segments of a store as one.
func compact(t *testing.T, s *files.Store, parts int) {
	t.Helper()
	cat, e := catalog.Open(s, parts)
	check(t, "catalog.Open", e, api.OK)
	check(t, "Compact", cat.Compact(0), api.OK)
}

// P19.1: a cut above what is sealed, and no commit: nothing is there then.
func TestErrGap(t *testing.T) {
	log := someLog(rand.New(rand.NewPCG(19, 4)), 20, 1)
	for _, sealed := range []int{0, 1, 20} {
		s := newStore(t, bigRoom)
		archive(t, s, log[:sealed], 1, 10)
		for _, cut := range []int{sealed + 1, 1000, api.MaxOffset - 1, api.MaxOffset} {
			checkUnchanged(t, cut, s, func() { checkNotOpened(t, cut, s, upTo(tumbling(10), cut), plan, api.ErrGap) })
		}
		opened(t, sealed, s, upTo(tumbling(10), sealed))
	}
}

// P19.1: without a commit, the catalog's error: another number of partitions, a file that isn't one.
func TestCatalogErrors(t *testing.T) {
	log := someLog(rand.New(rand.NewPCG(19, 5)), 20, 1)
	s := newStore(t, bigRoom)
	archive(t, s, log, 1, 10)
	checkNotOpened(t, "another log", s, with(tumbling(10), 0, 0, 2), plan, api.ErrForm)
	checkNotOpened(t, "another log, and a cut above", s, upTo(with(tumbling(10), 0, 0, 2), 21), plan, api.ErrForm)
	put(t, s, "cat", nil)
	checkNotOpened(t, "an empty file", s, upTo(tumbling(10), 21), plan, api.ErrForm)
	s = newStore(t, bigRoom)
	archive(t, s, log, 1, 10)
	check(t, "Spoil", s.Spoil("cat", 44), api.OK)
	checkNotOpened(t, "a turned bit", s, upTo(tumbling(10), 21), plan, api.ErrSum)
}

// P19.1: without a commit, batch.Run's error: a segment that isn't there, or is spoilt, below the cut; above it plays no part, nor does any behind the first commit.
func TestRunErrors(t *testing.T) {
	log := someLog(rand.New(rand.NewPCG(19, 6)), 30, 1)
	for _, x := range []struct {
		what  string
		spoil func(s *files.Store)
		want  api.Errno
	}{
		{"missing", func(s *files.Store) { check(t, "Delete", s.Delete("seg.10.20"), api.OK) }, api.ErrNone},
		{"spoilt", func(s *files.Store) { check(t, "Spoil", s.Spoil("seg.10.20", 100), api.OK) }, api.ErrSum},
		{"empty", func(s *files.Store) { put(t, s, "seg.10.20", nil) }, api.ErrForm},
	} {
		s := newStore(t, bigRoom)
		archive(t, s, log, 1, 10, 10)
		x.spoil(s)
		for _, cut := range []int{11, 20, 30} {
			checkNotOpened(t, x.what, s, upTo(session(5), cut), plan, x.want)
		}
		checkNotOpened(t, x.what, s, upTo(session(5), 31), plan, api.ErrGap)
		opened(t, x.what, s, upTo(session(5), 10))

		s = newStore(t, bigRoom)
		archive(t, s, log, 1, 10, 10)
		opened(t, x.what, s, upTo(session(5), 20))
		x.spoil(s)
		opened(t, x.what+", behind a commit", s, upTo(session(5), 20))
		check(t, "Delete", s.Delete("cat"), api.OK)
		opened(t, "without a catalog, behind a commit", s, upTo(session(5), 20))
	}
}

// P19.1: what was left of runs, of a catalog and of a commit goes, and takes no part.
func TestLeft(t *testing.T) {
	log := someLog(rand.New(rand.NewPCG(19, 7)), 30, 1)
	s := newStore(t, bigRoom)
	archive(t, s, log, 1, 10)
	for _, name := range []string{"man.tmp", "out.1", "state.1", "out.9", "run.0", "run.77", "cat.tmp", "seg.3.4"} {
		put(t, s, name, []byte("left"))
	}
	c := upTo(session(5), 25)
	x := opened(t, "Open", s, c)
	m := newModel(t, c, log[:25])
	m.commit()
	checkEngine(t, "Open", x, m)
	checkFiles(t, "Open", s, m)
	if l := s.List(); !slices.Equal(l, []string{"cat", "man", "out.1", "seg.0.10", "seg.10.30", "state.1"}) {
		t.Errorf("files %q", l)
	}
}

// otherConfigs are configs with form that differ from one in one thing each.
func otherConfigs(c api.Config) []api.Config {
	var l []api.Config
	for _, change := range []func(c *api.Config){
		func(c *api.Config) { c.Kind, c.Step = api.Tumbling, 0 },
		func(c *api.Config) { c.Kind, c.Step = api.Session, 0 },
		func(c *api.Config) { c.Size++ },
		func(c *api.Config) { c.Step++ },
		func(c *api.Config) { c.Late++ },
		func(c *api.Config) { c.Late = -1 },
		func(c *api.Config) { c.Skew++ },
		func(c *api.Config) { c.Parts++ },
		func(c *api.Config) { c.Cut++ },
		func(c *api.Config) { c.Cut-- },
		func(c *api.Config) { c.Cut = api.MaxOffset },
	} {
		c := c
		change(&c)
		l = append(l, c)
	}
	return l
}

// P19.1: behind a commit: the same config goes on, of another one it is ErrState, and nothing is changed; as often as one likes.
func TestErrState(t *testing.T) {
	log := someLog(rand.New(rand.NewPCG(19, 8)), 30, 2)
	c := upTo(with(sliding(10, 4), 5, 2, 2), 12)
	s := newStore(t, bigRoom)
	x, m := both(t, c, s, c, log, 5)
	for i, e := range log[12:] {
		checkIn(t, "In", x, m, e)
		if i%6 == 0 {
			checkCommit(t, i, x, m)
		}
		if i%6 != 1 {
			continue
		}
		for _, other := range otherConfigs(c) {
			checkUnchanged(t, other, s, func() { checkNotOpened(t, other, s, other, plan, api.ErrState) })
			checkEngine(t, other, x, m)
		}
		checkFiles(t, i, s, m)
	}
	checkCommit(t, "the last one", x, m)
	checkEngine(t, "the same config", opened(t, "the same config", s, c), m)
}

// P19.1: two configs are two, also where their events come to the same.
func TestErrStateOfLate(t *testing.T) {
	s := newStore(t, bigRoom)
	opened(t, "-1", s, with(tumbling(10), -1, 0, 1))
	checkNotOpened(t, "-2", s, with(tumbling(10), -2, 0, 1), plan, api.ErrState)
}

// tampered is a store of one commit: a state and changes of one's own.
func tampered(t *testing.T, state []byte, l ...[]api.Change) *files.Store {
	t.Helper()
	s := newStore(t, bigRoom)
	for i, changes := range l {
		check(t, "Put", commit.Put(s, uint64(i+1), state, changes), api.OK)
	}
	return s
}

// change is one of a pane with one value.
func change(put bool, rev uint64, val float64) api.Change {
	return api.Change{Put: put, Rev: rev, P: api.Pane{Key: "k", W: api.Window{End: 10}, A: api.Agg{Count: 1, Sum: val, Min: val, Max: val}}}
}

// stateOf are the bytes of an operator to which nothing came.
func stateOf(t *testing.T, c api.Config) []byte {
	t.Helper()
	o, e := stream.New(c, batch.Boot{})
	check(t, "stream.New", e, api.OK)
	return o.Save()
}

// P19.1: changes that aren't in order, within a commit, and from one to the next.
func TestChangesNotInOrder(t *testing.T) {
	c := tumbling(10)
	put, back, again := change(true, 0, 1), change(false, 0, 1), change(true, 1, 2)
	for _, x := range []struct {
		l    [][]api.Change
		want api.Errno
	}{
		{[][]api.Change{{put, back, again}}, api.OK},
		{[][]api.Change{{put}, {back}, {again}}, api.OK},
		{[][]api.Change{{put}, nil, {back, again}, nil}, api.OK},
		{[][]api.Change{{put, put}}, api.ErrForm},
		{[][]api.Change{{back}}, api.ErrForm},
		{[][]api.Change{{again}}, api.ErrForm},
		{[][]api.Change{{put, again}}, api.ErrForm},
		{[][]api.Change{{put}, {put}}, api.ErrForm},
		{[][]api.Change{{put}, nil, {again}}, api.ErrForm},
		{[][]api.Change{{put}, {change(false, 0, 2)}}, api.ErrForm},
		{[][]api.Change{{put}, {back}, {put}}, api.ErrForm},
		{[][]api.Change{{back}, {put}}, api.ErrForm},
	} {
		s := tampered(t, stateOf(t, c), x.l...)
		if x.want != api.OK {
			checkUnchanged(t, x.l, s, func() { checkNotOpened(t, x.l, s, c, plan, x.want) })
			continue
		}
		e := opened(t, x.l, s, c)
		if e.Commits() != uint64(len(x.l)) || !same(e.Ledger().All(), slices.Concat(x.l...)) || len(e.Waiting()) > 0 {
			t.Errorf("%v: %d commits, %v", x.l, e.Commits(), e.Ledger().All())
		}
	}
}

// P19.1: a state that is none: stream.Load's error.
func TestLoadErrors(t *testing.T) {
	c := tumbling(10)
	state := stateOf(t, c)
	turned := slices.Clone(state)
	turned[6] ^= 1
	for _, x := range []struct {
		state []byte
		want  api.Errno
	}{{nil, api.ErrForm}, {[]byte("state"), api.ErrForm}, {state[:len(state)-1], api.ErrForm}, {append(slices.Clone(state), 0), api.ErrForm}, {turned, api.ErrSum}} {
		s := tampered(t, x.state, []api.Change{change(true, 0, 1)})
		checkUnchanged(t, x.state, s, func() { checkNotOpened(t, x.state, s, c, plan, x.want) })
	}
}

// P19.1: of several faults Recover's error goes first, then Load's, then ErrState, then ErrForm of the changes.
func TestSeveralFaults(t *testing.T) {
	c, other := tumbling(10), tumbling(11)
	state := stateOf(t, c)
	turned := slices.Clone(state)
	turned[6] ^= 1
	wrong := []api.Change{change(false, 0, 1)}

	checkNotOpened(t, "another config, and no order", tampered(t, state, wrong), other, plan, api.ErrState)
	checkNotOpened(t, "a spoilt state, another config, and no order", tampered(t, turned, wrong), other, plan, api.ErrSum)
	checkNotOpened(t, "no state, another config, and no order", tampered(t, nil, wrong), other, plan, api.ErrForm)

	s := tampered(t, nil, wrong)
	check(t, "Spoil", s.Spoil("out.1", 50), api.OK)
	checkNotOpened(t, "spoilt changes, and no state", s, other, plan, api.ErrSum)
	s = tampered(t, turned, wrong)
	put(t, s, "out.1", nil)
	checkNotOpened(t, "no changes, and a spoilt state", s, other, plan, api.ErrForm)
	check(t, "Spoil", s.Spoil("man", 50), api.OK)
	checkNotOpened(t, "a spoilt man ahead of all", s, other, plan, api.ErrSum)
	checkNotOpened(t, "no plan ahead of that", s, other, sorter.Plan{}, api.ErrArg)

	// Without a commit: commit's files, the catalog, what it has, the cut.
	s = newStore(t, bigRoom)
	archive(t, s, someLog(rand.New(rand.NewPCG(19, 9)), 20, 1), 1, 10)
	check(t, "Spoil", s.Spoil("seg.0.10", 100), api.OK)
	checkNotOpened(t, "a cut above, and a spoilt segment", s, upTo(c, 21), plan, api.ErrGap)
	check(t, "Spoil", s.Spoil("cat", 50), api.OK)
	checkNotOpened(t, "a spoilt catalog", s, upTo(c, 21), plan, api.ErrSum)
	put(t, s, "man", nil)
	checkNotOpened(t, "no man", s, upTo(c, 21), plan, api.ErrForm)
}

// P19.1: a store without power: ErrCrash, ahead of all but what is handed in.
func TestNoPower(t *testing.T) {
	for name, s := range stores(t) {
		if s.On() {
			switchOff(t, s)
		}
		for _, c := range []api.Config{tumbling(10), upTo(tumbling(10), 15), upTo(tumbling(10), 1000), with(session(3), 0, 0, 8)} {
			checkUnchanged(t, name, s, func() { checkNotOpened(t, name, s, c, plan, api.ErrCrash) })
		}
	}
}
