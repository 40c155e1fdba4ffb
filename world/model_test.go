package world_test

import (
	"fmt"
	"maps"
	"math"
	"math/rand/v2"
	"slices"
	"strings"
	"testing"

	"headrace/api"
	"headrace/catalog"
	"headrace/engine"
	"headrace/event"
	"headrace/files"
	"headrace/sorter"
	"headrace/world"
)

const (
	bigRoom = 1 << 20
	theOne  = 0x7ff8000000000000 // the bits of what is no number
)

var (
	plan    = sorter.Plan{Hold: 4, Fan: 2}
	longest = strings.Repeat("\xff", api.MaxKey)
)

// vals are values of all kinds.
var vals = []float64{
	0, math.Copysign(0, -1), 1, -1, 0.1, 1e300, -1e300, math.SmallestNonzeroFloat64, -math.MaxFloat64, math.MaxFloat64,
	math.Inf(1), math.Inf(-1), math.NaN(), math.Float64frombits(0xfff0000000000009),
}

func tumbling(size int64) api.Config {
	return api.Config{Kind: api.Tumbling, Size: size, Parts: 1}
}

func session(size int64) api.Config {
	return api.Config{Kind: api.Session, Size: size, Parts: 1}
}

// with are a config's Late, Skew and Parts.
func with(c api.Config, late, skew int64, parts int) api.Config {
	c.Late, c.Skew, c.Parts = late, skew, parts
	return c
}

// upTo is a config whose archive ends at a cut.
func upTo(c api.Config, cut int) api.Config {
	c.Cut = uint64(cut)
	return c
}

// anyConfig is a config of small sizes, of each kind.
func anyConfig(r *rand.Rand) api.Config {
	size := 1 + r.Int64N(16)
	c := []api.Config{tumbling(size), session(size)}[r.IntN(2)]
	if r.IntN(3) == 0 {
		fewest := (size + api.MaxShare - 1) / api.MaxShare
		c.Kind, c.Step = api.Sliding, fewest+r.Int64N(size-fewest+1)
	}
	return with(c, []int64{-1, 0, 1, r.Int64N(20)}[r.IntN(4)], []int64{0, 1, r.Int64N(20)}[r.IntN(3)], 1+r.IntN(3))
}

// anyEvent is an event of a log around a time, of few keys.
func anyEvent(r *rand.Rand, parts int, time int64) api.Event {
	e := api.Event{
		Offset: r.Uint64(),
		Part:   r.IntN(parts),
		Time:   time + r.Int64N(20),
		Key:    []string{"", "a", "ab", "b", longest}[r.IntN(5)],
		Val:    math.Ldexp(r.Float64()-0.5, r.IntN(200)-100),
	}
	if r.IntN(9) == 0 {
		e.Val = vals[r.IntN(len(vals))]
	}
	return e
}

// at is an event of one partition, but for its offset.
func at(time int64, key string, val float64) api.Event {
	return api.Event{Time: time, Key: key, Val: val}
}

func check(t testing.TB, what any, got, want api.Errno) {
	t.Helper()
	if got != want {
		t.Fatalf("%v: error %d, not %d", what, got, want)
	}
}

func newWorld(t testing.TB, room int, c api.Config, p sorter.Plan) *world.World {
	t.Helper()
	w, e := world.New(room, c, p)
	check(t, "New", e, api.OK)
	return w
}

// do does steps, which all must answer OK.
func do(t testing.TB, w *world.World, l ...world.Step) {
	t.Helper()
	for i, x := range l {
		check(t, fmt.Sprintf("step %d, %+v", i, x), w.Do(x), api.OK)
	}
}

func emit(e api.Event) world.Step {
	return world.Step{Kind: world.Emit, E: e}
}

// step is one that a number, or none, tells.
func step(kind byte, n ...int) world.Step {
	x := world.Step{Kind: kind}
	if len(n) > 0 {
		x.N = n[0]
	}
	if len(n) > 1 {
		x.K = n[1]
	}
	return x
}

// emitted is a world with a log of n events.
func emitted(t testing.TB, n int, c api.Config) *world.World {
	t.Helper()
	w := newWorld(t, api.MaxStore, c, plan)
	for i := range n {
		do(t, w, emit(api.Event{Part: i % c.Parts, Time: int64(3 * i), Key: string(rune('a' + i%3)), Val: float64(i)}))
	}
	return w
}

func sameEvent(a, b api.Event) bool {
	return a.Offset == b.Offset && a.Part == b.Part && a.Time == b.Time && a.Key == b.Key && bitsOf(a.Val) == bitsOf(b.Val)
}

// bitsOf are a number's, and of all that is none the one's.
func bitsOf(x float64) uint64 {
	if x != x {
		return theOne
	}
	return math.Float64bits(x)
}

func samePane(a, b api.Pane) bool {
	return a.Key == b.Key && a.W == b.W && a.A.Count == b.A.Count && a.A.Over == b.A.Over &&
		bitsOf(a.A.Sum) == bitsOf(b.A.Sum) && bitsOf(a.A.Min) == bitsOf(b.A.Min) && bitsOf(a.A.Max) == bitsOf(b.A.Max)
}

func same(a, b []api.Change) bool {
	return slices.EqualFunc(a, b, func(a, b api.Change) bool {
		return a.Put == b.Put && a.Rev == b.Rev && samePane(a.P, b.P)
	})
}

// filesOf are a store's files and their bytes; without power their names alone.
func filesOf(t testing.TB, s *files.Store) map[string]string {
	t.Helper()
	l := map[string]string{}
	for _, name := range s.List() {
		p, e := s.Read(name)
		if s.On() {
			check(t, "Read "+name, e, api.OK)
		}
		l[name] = string(p)
	}
	return l
}

// model is a world put together apart from the program, of the layers below by the chapter's words.
type model struct {
	c     api.Config
	p     sorter.Plan
	log   []api.Event
	s     *files.Store
	x     *engine.Engine
	steps map[byte]func(x world.Step) api.Errno
}

func newModel(t testing.TB, room int, c api.Config, p sorter.Plan) *model {
	t.Helper()
	s, e := files.New(room)
	check(t, "files.New", e, api.OK)
	m := &model{c: c, p: p, s: s}
	m.steps = map[byte]func(x world.Step) api.Errno{
		0: m.emit,
		1: m.seal,
		2: func(x world.Step) api.Errno {
			return m.withCatalog(func(cat *catalog.Catalog) api.Errno { return cat.Compact(x.N) })
		},
		3: func(world.Step) (e api.Errno) {
			m.x, e = engine.Open(m.s, m.c, m.p)
			return e
		},
		4: func(x world.Step) api.Errno {
			if x.N < 0 || x.N > len(m.log)-1 {
				return api.ErrArg
			}
			return m.x.In(m.log[x.N])
		},
		5: func(world.Step) api.Errno { return m.x.End() },
		6: func(world.Step) api.Errno { return m.x.Commit() },
		7: func(x world.Step) api.Errno { return m.s.Arm(x.N) },
		8: func(x world.Step) api.Errno {
			m.x = nil
			return m.s.Restart(x.Keep)
		},
		9: func(x world.Step) api.Errno {
			for i, name := range m.s.List() {
				if i == x.N {
					return m.s.Spoil(name, x.K)
				}
			}
			return api.ErrArg
		},
	}
	return m
}

func (m *model) do(x world.Step) api.Errno {
	f, there := m.steps[x.Kind]
	if !there {
		return api.ErrArg
	}
	return f(x)
}

func (m *model) emit(x world.Step) api.Errno {
	e := x.E
	e.Offset = uint64(len(m.log))
	if !event.Form(e, m.c.Parts) {
		return api.ErrForm
	}
	m.log = append(m.log, e)
	return api.OK
}

func (m *model) withCatalog(f func(cat *catalog.Catalog) api.Errno) api.Errno {
	cat, e := catalog.Open(m.s, m.c.Parts)
	if e != api.OK {
		return e
	}
	return f(cat)
}

func (m *model) seal(x world.Step) api.Errno {
	return m.withCatalog(func(cat *catalog.Catalog) api.Errno {
		var next []api.Event
		for _, e := range m.log {
			if e.Offset >= cat.To() {
				next = append(next, e)
			}
		}
		if x.N < 1 || x.N > len(next) {
			return api.ErrArg
		}
		return cat.Seal(next[:x.N])
	})
}

// checkWorld holds all that a world tells against the model.
func checkWorld(t testing.TB, what any, w *world.World, m *model) {
	t.Helper()
	if l := w.Log(); !slices.EqualFunc(l, m.log, sameEvent) {
		t.Fatalf("%v: the log is %+v, not %+v", what, l, m.log)
	}
	s := w.Store()
	if s.On() != m.s.On() || s.Ops() != m.s.Ops() || s.Used() != m.s.Used() || !maps.Equal(filesOf(t, s), filesOf(t, m.s)) {
		t.Fatalf("%v: the store has %q, %d operations; not %q, %d", what, s.List(), s.Ops(), m.s.List(), m.s.Ops())
	}
	x := w.Engine()
	if (x == nil) != (m.x == nil) || x.Commits() != m.x.Commits() {
		t.Fatalf("%v: engine %v, %d commits; not %v, %d", what, x, x.Commits(), m.x, m.x.Commits())
	}
	if !same(x.Waiting(), m.x.Waiting()) || !same(x.Ledger().All(), m.x.Ledger().All()) || string(x.Operator().Save()) != string(m.x.Operator().Save()) {
		t.Fatalf("%v: %v wait, there is %v; not %v, %v", what, x.Waiting(), x.Ledger().All(), m.x.Waiting(), m.x.Ledger().All())
	}
}

// told is all that a world tells, as a text.
func told(t testing.TB, w *world.World) string {
	t.Helper()
	x := w.Engine()
	return fmt.Sprint(w.Log(), w.Store().On(), w.Store().Ops(), filesOf(t, w.Store()), x == nil, x.Commits(), x.Waiting(), x.Ledger().All(), x.Operator().Save())
}

// checkRefused looks that a step answers this error, and that nothing that the world tells has changed.
func checkRefused(t testing.TB, w *world.World, x world.Step, want api.Errno) {
	t.Helper()
	before, had := told(t, w), w.Engine()
	check(t, fmt.Sprintf("%+v", x), w.Do(x), want)
	if after := told(t, w); after != before || w.Engine() != had {
		t.Fatalf("%+v: it tells %s\nnot %s", x, after, before)
	}
}
