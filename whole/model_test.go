package whole_test

import (
	"bytes"
	"cmp"
	"fmt"
	"math"
	"math/big"
	"math/rand/v2"
	"slices"
	"strings"
	"testing"

	"headrace/agg"
	"headrace/api"
	"headrace/whole"
)

const (
	least    = math.SmallestNonzeroFloat64
	greatest = math.MaxFloat64
)

var (
	minusZero = math.Copysign(0, -1)
	plusInf   = math.Inf(1)
	minusInf  = math.Inf(-1)
	nan       = math.Float64frombits(0x7ff8000000000000)
	// otherNaN is no number either, of other bits.
	otherNaN = math.Float64frombits(0xfff0000000000009)
	longest  = strings.Repeat("\xff", api.MaxKey)
)

// vals are values of all kinds.
var vals = []float64{
	0, minusZero, 1, -1, 0.1, 1.5, -2.25, 1e300, -1e300, least, -least, greatest, -greatest,
	plusInf, minusInf, nan, otherNaN,
}

func tumbling(size int64) api.Config {
	return api.Config{Kind: api.Tumbling, Size: size, Parts: 1}
}

func sliding(size, step int64) api.Config {
	return api.Config{Kind: api.Sliding, Size: size, Step: step, Parts: 1}
}

func session(size int64) api.Config {
	return api.Config{Kind: api.Session, Size: size, Parts: 1}
}

func win(start, end int64) api.Window {
	return api.Window{Start: start, End: end}
}

func text(c api.Config) string {
	return fmt.Sprintf("Kind %d, Size %d, Step %d", c.Kind, c.Size, c.Step)
}

// eventsAt are events of one key, one of each time, whose values are 1.
func eventsAt(key string, times ...int64) []api.Event {
	var l []api.Event
	for i, at := range times {
		l = append(l, api.Event{Offset: uint64(i), Time: at, Key: key, Val: 1})
	}
	return l
}

// eventsOf are events of one key and one time, of those values.
func eventsOf(key string, values ...float64) []api.Event {
	var l []api.Event
	for i, x := range values {
		l = append(l, api.Event{Offset: uint64(i), Key: key, Val: x})
	}
	return l
}

// someEvents are n events of few keys, whose times are few and near to one another around a time.
func someEvents(r *rand.Rand, n int, around, within int64) []api.Event {
	keys := []string{"", "a", "ab", "b", "a\x00", longest}[r.IntN(4):]
	l := make([]api.Event, n)
	for i := range l {
		at := around + r.Int64N(2*within+1) - within
		l[i] = api.Event{
			Offset: r.Uint64N(8),
			Time:   max(-api.MaxTime, min(api.MaxTime, at)),
			Key:    keys[r.IntN(len(keys))],
			Val:    someValue(r),
		}
	}
	return l
}

func someValue(r *rand.Rand) float64 {
	if r.IntN(20) == 0 {
		return vals[r.IntN(len(vals))]
	}
	return math.Ldexp(r.Float64()-0.5, r.IntN(200)-100)
}

// anyConfig is a config of small sizes, of each kind.
func anyConfig(r *rand.Rand) api.Config {
	size := 1 + r.Int64N(20)
	switch r.IntN(3) {
	case 0:
		return tumbling(size)
	case 1:
		fewest := (size + api.MaxShare - 1) / api.MaxShare
		return sliding(size, fewest+r.Int64N(size-fewest+1))
	}
	return session(size)
}

// group is what a group is to be: its values in the order in which they came.
type group struct {
	key string
	w   api.Window
	l   []float64
}

// windowsOf are the windows of a time of which it is, found among all that are about.
func windowsOf(c api.Config, at int64) []api.Window {
	step := c.Step
	if c.Kind == api.Tumbling {
		step = c.Size
	}
	var l []api.Window
	for n := (at-c.Size)/step - 2; n <= at/step+2; n++ {
		if start := n * step; start <= at && at < start+c.Size {
			l = append(l, win(start, start+c.Size))
		}
	}
	return l
}

// sessionsOf are the windows of events in sessions, found by what is near to what until nothing changes.
func sessionsOf(c api.Config, l []api.Event) []api.Window {
	windows := make([]api.Window, len(l))
	for i, e := range l {
		windows[i] = win(e.Time, e.Time+c.Size)
	}
	for changed := true; changed; {
		changed = false
		for i, a := range l {
			for k, b := range l {
				if a.Key != b.Key || a.Time-b.Time >= c.Size || b.Time-a.Time >= c.Size {
					continue
				}
				both := win(min(windows[i].Start, windows[k].Start), max(windows[i].End, windows[k].End))
				changed = changed || windows[i] != both || windows[k] != both
				windows[i], windows[k] = both, both
			}
		}
	}
	return windows
}

// model are the groups of events, worked out apart from the program.
func model(c api.Config, l []api.Event) []group {
	var groups []group
	put := func(key string, w api.Window, x float64) {
		for i, g := range groups {
			if g.key == key && g.w == w {
				groups[i].l = append(g.l, x)
				return
			}
		}
		groups = append(groups, group{key, w, []float64{x}})
	}
	var sessions []api.Window
	if c.Kind == api.Session {
		sessions = sessionsOf(c, l)
	}
	for i, e := range l {
		if c.Kind == api.Session {
			put(e.Key, sessions[i], e.Val)
			continue
		}
		for _, w := range windowsOf(c, e.Time) {
			put(e.Key, w, e.Val)
		}
	}
	slices.SortFunc(groups, func(a, b group) int { return order(a.key, a.w, b.key, b.w) })
	return groups
}

// order is the order of groups, told apart from the program.
func order(ak string, a api.Window, bk string, b api.Window) int {
	if c := bytes.Compare([]byte(ak), []byte(bk)); c != 0 {
		return c
	}
	return slices.Compare([]int64{a.Start, a.End}, []int64{b.Start, b.End})
}

func canon(x float64) float64 {
	if x != x {
		return nan
	}
	return x
}

// orderOf is the order of all numbers: -0 ahead of 0, what is no number last.
func orderOf(a, b float64) int {
	rank := func(x float64) [2]float64 {
		switch {
		case x != x:
			return [2]float64{plusInf, 1}
		case x == 0 && math.Signbit(x):
			return [2]float64{0, -1}
		}
		return [2]float64{x, 0}
	}
	x, y := rank(a), rank(b)
	return cmp.Or(cmp.Compare(x[0], y[0]), cmp.Compare(x[1], y[1]))
}

// told is what is told of values, worked out apart from the program.
func told(l []float64) api.Agg {
	sum, over := sumOf(l)
	return api.Agg{
		Count: uint64(len(l)),
		Sum:   sum,
		Over:  over,
		Min:   canon(slices.MinFunc(l, orderOf)),
		Max:   canon(slices.MaxFunc(l, orderOf)),
	}
}

// sumOf is the sum of values, rounded once, and whether it is too great.
func sumOf(l []float64) (float64, bool) {
	sum := new(big.Float).SetPrec(3000).SetFloat64(minusZero)
	var beyond float64
	for _, x := range l {
		if math.IsNaN(x) || math.IsInf(x, 0) {
			beyond += x
			continue
		}
		sum.Add(sum, new(big.Float).SetFloat64(x))
	}
	if beyond != 0 {
		return canon(beyond), false
	}
	x, _ := sum.Float64()
	return x, math.IsInf(x, 0)
}

// alike: are two tellings the same, to the bit?
func alike(a, b api.Agg) bool {
	bits := func(a api.Agg) [3]uint64 {
		return [3]uint64{math.Float64bits(a.Sum), math.Float64bits(a.Min), math.Float64bits(a.Max)}
	}
	return a.Count == b.Count && a.Over == b.Over && bits(a) == bits(b)
}

func samePane(a, b api.Pane) bool {
	return a.Key == b.Key && a.W == b.W && alike(a.A, b.A)
}

func stateOf(l []float64) agg.State {
	var s agg.State
	for _, x := range l {
		s = s.Add(x)
	}
	return s
}

func sameGroup(a, b whole.Group) bool {
	return a.Key == b.Key && a.W == b.W && bytes.Equal(agg.Lay(nil, a.S), agg.Lay(nil, b.S))
}

// checkGroups looks that groups are those, rise, each once, and that none is without values.
func checkGroups(t *testing.T, what string, got []whole.Group, want []group) {
	t.Helper()
	if len(got) != len(want) {
		t.Fatalf("%s: %d groups, not %d", what, len(got), len(want))
	}
	for i, g := range got {
		w := want[i]
		if g.Key != w.key || g.W != w.w {
			t.Fatalf("%s: group %d is of %q %v, not %q %v", what, i, g.Key, g.W, w.key, w.w)
		}
		if g.S.Len() != uint64(len(w.l)) || g.S.Len() == 0 || !bytes.Equal(agg.Lay(nil, g.S), agg.Lay(nil, stateOf(w.l))) {
			t.Fatalf("%s: group %d: of %q %v the values aren't %v but %+v", what, i, g.Key, g.W, w.l, g.S.Value())
		}
		if i > 0 && order(got[i-1].Key, got[i-1].W, g.Key, g.W) != -1 {
			t.Fatalf("%s: group %d doesn't stand ahead of the next one", what, i-1)
		}
	}
}

// checkPanes looks that panes are what is told of those groups.
func checkPanes(t *testing.T, what string, got []api.Pane, want []group) {
	t.Helper()
	if len(got) != len(want) {
		t.Fatalf("%s: %d panes, not %d", what, len(got), len(want))
	}
	for i, p := range got {
		if w := (api.Pane{Key: want[i].key, W: want[i].w, A: told(want[i].l)}); !samePane(p, w) {
			t.Fatalf("%s: pane %d is %+v, not %+v", what, i, p, w)
		}
	}
}

// check holds Groups and Panes of events against the model.
func check(t *testing.T, c api.Config, l []api.Event) {
	t.Helper()
	want := model(c, l)
	what := text(c) + fmt.Sprintf(", %d events", len(l))
	if len(l) < 10 {
		what = text(c) + fmt.Sprintf(", %+v", l)
	}
	checkGroups(t, what, whole.Groups(c, l), want)
	checkPanes(t, what, whole.Panes(c, l), want)
}

// permuted goes through a list's orders, all of them.
func permuted(l []api.Event, f func(l []api.Event)) {
	var from func(i int)
	from = func(i int) {
		if i == len(l) {
			f(l)
			return
		}
		for k := i; k < len(l); k++ {
			l[i], l[k] = l[k], l[i]
			from(i + 1)
			l[i], l[k] = l[k], l[i]
		}
	}
	from(0)
}
