package whole_test

import (
	"fmt"
	"math"
	"math/rand/v2"
	"slices"
	"testing"

	"headrace/agg"
	"headrace/api"
	"headrace/whole"
)

// windowsAlone are the windows of groups, all of one key.
func windowsAlone(t *testing.T, groups []whole.Group, key string) []api.Window {
	t.Helper()
	var l []api.Window
	for _, g := range groups {
		if g.Key != key {
			t.Fatalf("a group of %q, not %q", g.Key, key)
		}
		l = append(l, g.W)
	}
	return l
}

// P13.1: the chapter's example.
func TestExample(t *testing.T) {
	l := eventsAt("k", 1, 4, 8, 20)
	groups := whole.Groups(session(5), l)
	if got := windowsAlone(t, groups, "k"); !slices.Equal(got, []api.Window{win(1, 13), win(20, 25)}) {
		t.Fatalf("windows %v", got)
	}
	if groups[0].S.Len() != 3 || groups[1].S.Len() != 1 {
		t.Errorf("%d and %d values", groups[0].S.Len(), groups[1].S.Len())
	}
	want := []api.Pane{
		{Key: "k", W: win(1, 13), A: api.Agg{Count: 3, Sum: 3, Min: 1, Max: 1}},
		{Key: "k", W: win(20, 25), A: api.Agg{Count: 1, Sum: 1, Min: 1, Max: 1}},
	}
	if got := whole.Panes(session(5), l); !slices.EqualFunc(got, want, samePane) {
		t.Errorf("panes %+v", got)
	}
}

// written are times of one key with the windows of their groups, written out, and how many values each has.
var written = []struct {
	c      api.Config
	times  []int64
	want   []api.Window
	counts []uint64
}{
	{tumbling(10), nil, nil, nil},
	{tumbling(10), []int64{0}, []api.Window{win(0, 10)}, []uint64{1}},
	{tumbling(10), []int64{-1}, []api.Window{win(-10, 0)}, []uint64{1}},
	{tumbling(10), []int64{9, 10}, []api.Window{win(0, 10), win(10, 20)}, []uint64{1, 1}},
	{tumbling(10), []int64{25, -10, 3, 9, 0}, []api.Window{win(-10, 0), win(0, 10), win(20, 30)}, []uint64{1, 3, 1}},
	{tumbling(1), []int64{2, 2, 1}, []api.Window{win(1, 2), win(2, 3)}, []uint64{1, 2}},

	{sliding(10, 4), []int64{9}, []api.Window{win(0, 10), win(4, 14), win(8, 18)}, []uint64{1, 1, 1}},
	{sliding(10, 4), []int64{0, 9}, []api.Window{win(-8, 2), win(-4, 6), win(0, 10), win(4, 14), win(8, 18)}, []uint64{1, 1, 2, 1, 1}},
	{sliding(10, 5), []int64{7, 12}, []api.Window{win(0, 10), win(5, 15), win(10, 20)}, []uint64{1, 2, 1}},
	{sliding(10, 5), []int64{-5, 5}, []api.Window{win(-10, 0), win(-5, 5), win(0, 10), win(5, 15)}, []uint64{1, 1, 1, 1}},
	{sliding(10, 10), []int64{9, 10}, []api.Window{win(0, 10), win(10, 20)}, []uint64{1, 1}},
	{sliding(7, 5), []int64{3, 4, 5, 6}, []api.Window{win(0, 7), win(5, 12)}, []uint64{4, 2}},

	{session(5), []int64{0}, []api.Window{win(0, 5)}, []uint64{1}},
	{session(5), []int64{0, 4}, []api.Window{win(0, 9)}, []uint64{2}},
	{session(5), []int64{0, 5}, []api.Window{win(0, 5), win(5, 10)}, []uint64{1, 1}},
	{session(5), []int64{0, 5, 1}, []api.Window{win(0, 10)}, []uint64{3}},
	{session(5), []int64{0, 8, 4}, []api.Window{win(0, 13)}, []uint64{3}},
	{session(5), []int64{0, 9, 4}, []api.Window{win(0, 9), win(9, 14)}, []uint64{2, 1}},
	{session(5), []int64{-7, -3, 0, 4}, []api.Window{win(-7, 9)}, []uint64{4}},
	{session(1), []int64{3, 4, 3}, []api.Window{win(3, 4), win(4, 5)}, []uint64{2, 1}},
	{session(2), []int64{3, 4, 5, 7}, []api.Window{win(3, 7), win(7, 9)}, []uint64{3, 1}},
	{session(5), []int64{2, 2, 2, 2}, []api.Window{win(2, 7)}, []uint64{4}},
}

// P13.1: groups' windows and how many values they have, written out, in each order of few times.
func TestGroupsWrittenOut(t *testing.T) {
	for _, x := range written {
		permuted(eventsAt("k", x.times...), func(l []api.Event) {
			groups := whole.Groups(x.c, l)
			if got := windowsAlone(t, groups, "k"); !slices.Equal(got, x.want) {
				t.Fatalf("%s, %v: %v, not %v", text(x.c), l, got, x.want)
			}
			for i, g := range groups {
				if g.S.Len() != x.counts[i] {
					t.Fatalf("%s, %v: %v has %d values", text(x.c), l, g.W, g.S.Len())
				}
			}
			check(t, x.c, l)
		})
	}
}

// P13.1: of no events there are no groups and no panes.
func TestNoEvents(t *testing.T) {
	for _, c := range []api.Config{tumbling(10), sliding(10, 3), session(10)} {
		for _, l := range [][]api.Event{nil, {}} {
			if groups, panes := whole.Groups(c, l), whole.Panes(c, l); len(groups) != 0 || len(panes) != 0 {
				t.Errorf("%s: %v, %v", text(c), groups, panes)
			}
		}
	}
}

// P13.1: one event of all kinds of keys, times and values.
func TestOneEvent(t *testing.T) {
	for _, c := range []api.Config{tumbling(10), sliding(10, 3), sliding(16, 1), session(10)} {
		for _, key := range []string{"", "a", longest} {
			for _, at := range []int64{-api.MaxTime, -10, -1, 0, 1, 9, 10, api.MaxTime} {
				for _, x := range vals {
					check(t, c, []api.Event{{Offset: api.MaxOffset - 1, Part: api.MaxParts - 1, Time: at, Key: key, Val: x}})
				}
			}
		}
	}
}

// P13.1: keys stand by their bytes, and each has its own windows.
func TestKeys(t *testing.T) {
	keys := []string{longest, "b", "a\x00", "", "aa", "A", "a", "ab", longest[:api.MaxKey-1], "\x00", "é"}
	rising := slices.Clone(keys)
	slices.SortFunc(rising, func(a, b string) int { return order(a, win(0, 0), b, win(0, 0)) })
	for _, c := range []api.Config{tumbling(10), sliding(10, 10), session(10)} {
		var l []api.Event
		for i, key := range keys {
			l = append(l, api.Event{Offset: uint64(i), Time: 5, Key: key, Val: float64(i)})
		}
		var got []string
		for _, g := range whole.Groups(c, l) {
			got = append(got, g.Key)
		}
		if !slices.Equal(got, rising) {
			t.Errorf("%s: keys %q, not %q", text(c), got, rising)
		}
		check(t, c, l)
		check(t, c, slices.Concat(l, l, eventsAt("a", 14, 15, 25, 35), eventsAt("ab", 14, 16)))
	}
}

// P13.1: a session of a key has none of another key's times, not even one between.
func TestSessionsOfSeveralKeys(t *testing.T) {
	l := slices.Concat(eventsAt("a", 0, 8), eventsAt("b", 4), eventsAt("", 4), eventsAt("ab", 0, 8, 4))
	permuted(l, func(l []api.Event) {
		got := fmt.Sprint(panesBriefly(whole.Panes(session(5), l)))
		if got != `["" 4 9 1 "a" 0 5 1 "a" 8 13 1 "ab" 0 13 3 "b" 4 9 1]` {
			t.Fatalf("%v: %s", l, got)
		}
	})
}

func panesBriefly(l []api.Pane) []string {
	var texts []string
	for _, p := range l {
		texts = append(texts, fmt.Sprintf("%q %d %d %d", p.Key, p.W.Start, p.W.End, p.A.Count))
	}
	return texts
}

// P13.1: sessions of two times that lie each distance apart.
func TestSessionsApart(t *testing.T) {
	for _, size := range []int64{1, 2, 5, 1000, api.MaxSize} {
		for _, apart := range []int64{0, 1, size - 1, size, size + 1, 2 * size} {
			for _, from := range []int64{-api.MaxTime, -size, 0, 7, api.MaxTime - 2*size - 1} {
				want := []api.Window{win(from, from+size), win(from+apart, from+apart+size)}
				if apart < size {
					want = []api.Window{win(from, from+apart+size)}
				}
				for _, l := range [][]api.Event{eventsAt("k", from, from+apart), eventsAt("k", from+apart, from)} {
					if got := windowsAlone(t, whole.Groups(session(size), l), "k"); !slices.Equal(got, want) {
						t.Errorf("Size %d, %d apart from %d: %v, not %v", size, apart, from, got, want)
					}
					check(t, session(size), l)
				}
			}
		}
	}
}

// P13.1: a time that comes between joins sessions, however many steps there are, whichever comes when.
func TestSessionsStepByStep(t *testing.T) {
	for _, c := range []api.Config{session(5), session(1), session(4)} {
		permuted(eventsAt("k", 0, 4, 8, 12, 17, 20), func(l []api.Event) { check(t, c, l) })
	}
	var steps []int64
	for i := range int64(2000) {
		steps = append(steps, 4*i-4000)
	}
	r := rand.New(rand.NewPCG(13, 4))
	for range 5 {
		r.Shuffle(len(steps), func(i, k int) { steps[i], steps[k] = steps[k], steps[i] })
		l := eventsAt("k", steps...)
		if got := windowsAlone(t, whole.Groups(session(5), l), "k"); !slices.Equal(got, []api.Window{win(-4000, 4001)}) {
			t.Fatalf("windows %v", got)
		}
		if got := whole.Groups(session(4), l); len(got) != len(steps) {
			t.Fatalf("%d windows of times that lie Size apart", len(got))
		}
	}
}

// P13.1: windows of all small sizes and steps, at times below 0, at 0 and above.
func TestSmallSizes(t *testing.T) {
	r := rand.New(rand.NewPCG(13, 5))
	for size := int64(1); size <= 20; size++ {
		configs := []api.Config{tumbling(size), session(size)}
		for step := int64(1); step <= size; step++ {
			if size <= api.MaxShare*step {
				configs = append(configs, sliding(size, step))
			}
		}
		for _, c := range configs {
			check(t, c, eventsAt("k", -21, -20, -1, 0, 1, 19, 20, 21, 40))
			check(t, c, someEvents(r, 30, 0, 2*size+5))
		}
	}
}

// P13.1: times at -MaxTime and MaxTime, sizes up to MaxSize, a time in MaxShare windows.
func TestGreat(t *testing.T) {
	r := rand.New(rand.NewPCG(13, 6))
	for _, size := range []int64{1, 2, 3, 16, 17, 1000, api.MaxSize - 1, api.MaxSize} {
		configs := []api.Config{tumbling(size), session(size), sliding(size, size), sliding(size, (size+1)/2), sliding(size, (size+api.MaxShare-1)/api.MaxShare)}
		for _, c := range configs {
			for _, around := range []int64{-api.MaxTime, -size, 0, size, api.MaxTime} {
				check(t, c, someEvents(r, 20, around, 3))
				check(t, c, someEvents(r, 20, around, 2*size))
				check(t, c, eventsAt("k", around, -around, around, 0))
			}
			check(t, c, eventsAt(longest, -api.MaxTime, api.MaxTime, -api.MaxTime+1, api.MaxTime-1))
		}
	}
	c := sliding(api.MaxShare*7, 7)
	for at, want := range map[int64]int{49: api.MaxShare, 55: api.MaxShare, 56: api.MaxShare + 1, 63: api.MaxShare + 2} {
		if got := whole.Groups(c, eventsAt("k", at, 49)); len(got) != want {
			t.Errorf("times 49 and %d: %d windows", at, len(got))
		}
	}
}

// P13.1: many events of one time, and events that are there twice: each has its value there.
func TestManyOfOneTime(t *testing.T) {
	for _, c := range []api.Config{tumbling(10), sliding(10, 4), session(10)} {
		var l []api.Event
		for i := range 3000 {
			l = append(l, api.Event{Offset: uint64(i), Time: 9, Key: "k", Val: 0.1})
		}
		check(t, c, l)
		check(t, c, slices.Repeat([]api.Event{{Offset: 4, Time: 9, Key: "k", Val: 0.1}}, 50))
		some := append(eventsAt("k", 3, 9, 9, 14), eventsAt("a", 9)...)
		check(t, c, slices.Concat(some, some, some))
	}
	panes := whole.Panes(tumbling(10), slices.Repeat(eventsOf("k", 2.5), 2))
	if len(panes) != 1 || panes[0].A.Count != 2 || panes[0].A.Sum != 5 {
		t.Errorf("an event that is there twice: %+v", panes)
	}
}

// P13.1, P3: what is told of all kinds of values, sums that are too great on the way among them.
func TestValues(t *testing.T) {
	for _, x := range []struct {
		l    []float64
		want api.Agg
	}{
		{[]float64{3, 1, 2}, api.Agg{Count: 3, Sum: 6, Min: 1, Max: 3}},
		{[]float64{1e300, 1, -1e300}, api.Agg{Count: 3, Sum: 1, Min: -1e300, Max: 1e300}},
		{[]float64{minusZero}, api.Agg{Count: 1, Sum: minusZero, Min: minusZero, Max: minusZero}},
		{[]float64{minusZero, minusZero}, api.Agg{Count: 2, Sum: minusZero, Min: minusZero, Max: minusZero}},
		{[]float64{minusZero, 0}, api.Agg{Count: 2, Min: minusZero}},
		{[]float64{1, -1}, api.Agg{Count: 2, Min: -1, Max: 1}},
		{[]float64{otherNaN}, api.Agg{Count: 1, Sum: nan, Min: nan, Max: nan}},
		{[]float64{otherNaN, 2, nan}, api.Agg{Count: 3, Sum: nan, Min: 2, Max: nan}},
		{[]float64{plusInf, 1}, api.Agg{Count: 2, Sum: plusInf, Min: 1, Max: plusInf}},
		{[]float64{plusInf, minusInf}, api.Agg{Count: 2, Sum: nan, Min: minusInf, Max: plusInf}},
		{[]float64{greatest, greatest}, api.Agg{Count: 2, Sum: plusInf, Over: true, Min: greatest, Max: greatest}},
		{[]float64{-greatest, -greatest}, api.Agg{Count: 2, Sum: minusInf, Over: true, Min: -greatest, Max: -greatest}},
		{[]float64{greatest, greatest, 7, -greatest, -greatest}, api.Agg{Count: 5, Sum: 7, Min: -greatest, Max: greatest}},
		{[]float64{greatest, least, -greatest}, api.Agg{Count: 3, Sum: least, Min: -greatest, Max: greatest}},
	} {
		for _, c := range []api.Config{tumbling(10), sliding(10, 4), session(10)} {
			permuted(eventsOf("k", x.l...), func(l []api.Event) {
				for _, p := range whole.Panes(c, l) {
					if !alike(p.A, x.want) {
						t.Fatalf("%s, %v: %+v, not %+v", text(c), l, p.A, x.want)
					}
				}
				check(t, c, l)
			})
		}
	}
}

// P13.1: events anyhow, in orders anyhow, come to the same.
func TestWhicheverOrder(t *testing.T) {
	r := rand.New(rand.NewPCG(13, 7))
	for n := range 400 {
		c := anyConfig(r)
		l := someEvents(r, n%70, r.Int64N(41)-20, 1+r.Int64N(100))
		check(t, c, l)
		groups, panes := whole.Groups(c, l), whole.Panes(c, l)
		for range 5 {
			r.Shuffle(len(l), func(i, k int) { l[i], l[k] = l[k], l[i] })
			if !slices.EqualFunc(whole.Groups(c, l), groups, sameGroup) || !slices.EqualFunc(whole.Panes(c, l), panes, samePane) {
				t.Fatalf("%s: otherwise in another order: %v", text(c), l)
			}
		}
	}
}

// P13.1: many events, rising, falling, and mixed.
func TestManyEvents(t *testing.T) {
	r := rand.New(rand.NewPCG(13, 8))
	for _, c := range []api.Config{tumbling(100), sliding(100, 30), session(3)} {
		l := make([]api.Event, 20000)
		for i := range l {
			l[i] = api.Event{Offset: uint64(i), Time: int64(2 * (i / 2)), Key: []string{"", "a", "ab"}[i%3], Val: r.NormFloat64()}
		}
		groups := whole.Groups(c, l)
		counts := map[api.Window]uint64{}
		for i, g := range groups {
			counts[g.W] += g.S.Len()
			if i > 0 && order(groups[i-1].Key, groups[i-1].W, g.Key, g.W) != -1 {
				t.Fatalf("%s: %v, %v", text(c), groups[i-1], g)
			}
		}
		if c.Kind == api.Tumbling && (len(groups) != 600 || counts[win(100, 200)] != 100) {
			t.Errorf("%d groups, %d values", len(groups), counts[win(100, 200)])
		}
		back := slices.Clone(l)
		slices.Reverse(back)
		mixed := slices.Clone(l)
		r.Shuffle(len(mixed), func(i, k int) { mixed[i], mixed[k] = mixed[k], mixed[i] })
		for _, o := range [][]api.Event{back, mixed} {
			if !slices.EqualFunc(whole.Groups(c, o), groups, sameGroup) {
				t.Errorf("%s: otherwise in another order", text(c))
			}
		}
	}
}

// P13.1: what isn't said of an event plays no part: its offset, its partition; of a config its lateness, skew, partitions, cut.
func TestWhatPlaysNoPart(t *testing.T) {
	r := rand.New(rand.NewPCG(13, 9))
	for range 100 {
		c := anyConfig(r)
		l := someEvents(r, 30, 0, 50)
		want := whole.Groups(c, l)
		for i := range l {
			l[i].Offset, l[i].Part = r.Uint64N(api.MaxOffset), r.IntN(api.MaxParts)
		}
		c.Late, c.Skew, c.Parts, c.Cut = r.Int64N(api.MaxSize)-5, r.Int64N(api.MaxSize), 1+r.IntN(api.MaxParts), r.Uint64N(api.MaxOffset)
		if !slices.EqualFunc(whole.Groups(c, l), want, sameGroup) {
			t.Fatalf("%+v: otherwise than %s", c, text(c))
		}
	}
}

// P4: the groups of a log are those of any two parts of it, joined.
func TestGroupsOfTwoParts(t *testing.T) {
	r := rand.New(rand.NewPCG(13, 10))
	for range 200 {
		c := anyConfig(r)
		l := someEvents(r, 1+r.IntN(60), 0, 80)
		cut := r.IntN(len(l) + 1)
		parts := append(whole.Groups(c, l[cut:]), whole.Groups(c, l[:cut])...)
		whole.Sort(parts)
		var joined []whole.Group
		for _, g := range parts {
			last := len(joined) - 1
			if last >= 0 && joined[last].Key == g.Key && (joined[last].W == g.W || c.Kind == api.Session && g.W.Start < joined[last].W.End) {
				joined[last].W.End = max(joined[last].W.End, g.W.End)
				joined[last].S = joined[last].S.Join(g.S)
				continue
			}
			joined = append(joined, g)
		}
		if got := whole.Groups(c, l); !slices.EqualFunc(got, joined, sameGroup) {
			t.Fatalf("%s, %v: %v, not %v", text(c), l, got, joined)
		}
	}
}

// What is handed in is not changed, and may be written over behind the call; so may what is answered.
func TestMemory(t *testing.T) {
	r := rand.New(rand.NewPCG(13, 11))
	for range 50 {
		c := anyConfig(r)
		l := someEvents(r, 40, 0, 60)
		handed := slices.Clone(l)
		want := model(c, l)
		groups, panes := whole.Groups(c, handed), whole.Panes(c, handed)
		for i := range l {
			if l[i].Offset != handed[i].Offset || l[i].Time != handed[i].Time || l[i].Key != handed[i].Key || math.Float64bits(l[i].Val) != math.Float64bits(handed[i].Val) {
				t.Fatalf("event %d was changed: %v", i, handed[i])
			}
		}
		clear(handed)
		checkGroups(t, text(c), groups, want)
		checkPanes(t, text(c), panes, want)

		others, otherPanes := whole.Groups(c, l), whole.Panes(c, l)
		clear(groups[:cap(groups)])
		clear(panes[:cap(panes)])
		checkGroups(t, text(c), others, want)
		checkPanes(t, text(c), otherPanes, want)
		check(t, c, l)
	}
}

// P2: asked again, whatever was asked between, the answers are the same.
func TestAnswersAgain(t *testing.T) {
	r := rand.New(rand.NewPCG(13, 12))
	c, l := sliding(10, 4), someEvents(r, 30, 0, 50)
	groups, panes := whole.Groups(c, l), whole.Panes(c, l)
	for range 20 {
		whole.Groups(anyConfig(r), someEvents(r, 20, 0, 30))
		if !slices.EqualFunc(whole.Groups(c, l), groups, sameGroup) || !slices.EqualFunc(whole.Panes(c, l), panes, samePane) {
			t.Fatal("other answers")
		}
	}
}

// P1: of configs without window.Form and events without event.Form nothing is promised, but that the calls end.
func TestBeyondThePromise(t *testing.T) {
	configs := []api.Config{
		{}, {Kind: 3, Size: 5, Parts: 1}, {Kind: 255, Size: 5, Step: 1, Parts: 1}, {Kind: api.Sliding, Size: 5, Parts: 1},
		{Kind: api.Sliding, Size: 5, Step: -1, Parts: 1}, {Kind: api.Sliding, Size: api.MaxSize, Step: 1, Parts: 1}, {Kind: api.Sliding, Size: 5, Step: math.MinInt64, Parts: 1},
		tumbling(0), tumbling(-5), tumbling(math.MinInt64), tumbling(math.MaxInt64), tumbling(api.MaxSize + 1),
		session(0), session(-1), session(math.MaxInt64), session(math.MinInt64), sliding(math.MaxInt64, math.MaxInt64),
		{Kind: api.Session, Size: 5, Step: 5, Parts: 1}, {Size: 5}, {Size: 5, Parts: -1},
		tumbling(10), sliding(16, 1), sliding(api.MaxSize, api.MaxSize/api.MaxShare), session(10), session(api.MaxSize),
	}
	var l []api.Event
	for _, at := range []int64{math.MinInt64, math.MinInt64 + 1, -4*api.MaxTime - 1, -1, 0, 1, 4*api.MaxTime + 1, math.MaxInt64 - 1, math.MaxInt64} {
		l = append(l,
			api.Event{Offset: math.MaxUint64, Part: math.MinInt, Time: at, Key: longest + longest, Val: nan},
			api.Event{Offset: api.MaxOffset, Part: -1, Time: at, Key: "k", Val: 1},
			api.Event{Part: math.MaxInt, Time: at, Key: "k", Val: 1})
	}
	for _, c := range configs {
		if len(whole.Groups(c, l)) != len(whole.Panes(c, l)) {
			t.Errorf("%s: not as many panes as groups", text(c))
		}
		whole.Groups(c, nil)
		whole.Panes(c, []api.Event{})
	}
}

// FuzzGroups: three bytes an event: its key, its time, its value.
func FuzzGroups(f *testing.F) {
	f.Add(byte(0), byte(9), byte(0), []byte("a\x00\x01a\x09\x02b\xff\x03"))
	f.Add(byte(1), byte(9), byte(3), []byte("a\x00\x0ba\x09\x0ba\x0a\x0c\x00\x80\x01"))
	f.Add(byte(2), byte(4), byte(0), []byte("a\x01\x01a\x04\x0fa\x08\x10a\x14\x01"))
	f.Fuzz(func(t *testing.T, kind, size, step byte, p []byte) {
		c := []api.Config{
			tumbling(1 + int64(size)),
			sliding(1+int64(size), min(1+int64(size), int64(size)/api.MaxShare+1+int64(step))),
			session(1 + int64(size)),
		}[kind%3]
		var l []api.Event
		for i := 0; i+2 < len(p) && i < 300; i += 3 {
			l = append(l, api.Event{Offset: uint64(i), Time: int64(int8(p[i+1])), Key: string(p[i : i+1]), Val: vals[int(p[i+2])%len(vals)]})
		}
		check(t, c, l)
		for _, g := range whole.Groups(c, l) {
			if g.S == (agg.State{}) {
				t.Fatalf("%s: a group of no values", text(c))
			}
		}
	})
}
