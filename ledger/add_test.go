package ledger_test

import (
	"math"
	"math/rand/v2"
	"slices"
	"testing"

	"headrace/api"
	"headrace/ledger"
)

var abc = pane("abc", win(0, 10), tellings[4])

// P16.1: the chapter's example.
func TestExample(t *testing.T) {
	var g ledger.Ledger
	b := mustAdd(t, "example", &g, nil, put(0, abc), back(0, abc), put(1, abc))
	if view := g.View(); !samePanes(view, []api.Pane{abc}) {
		t.Errorf("View = %+v", view)
	}
	mustRefuse(t, "it isn't in revision 0", &g, b, back(0, abc))
	mustAdd(t, "it is in revision 1", &g, b, back(1, abc))
}

// P16.1: a zero value has nothing, and takes no changes.
func TestZeroValue(t *testing.T) {
	var g ledger.Ledger
	check(t, "a zero value", &g, nil)
	for _, l := range [][]api.Change{nil, {}, []api.Change{put(0, abc)}[:0]} {
		if e := g.Add(l); e != api.OK {
			t.Errorf("Add of no changes: error %d", e)
		}
		check(t, "no changes", &g, nil)
	}
	mustRefuse(t, "what isn't first", &g, nil, put(1, abc))
	mustRefuse(t, "what isn't there", &g, nil, back(0, abc))
	check(t, "nothing but errors", &g, nil)
	b := mustAdd(t, "the first change", &g, nil, put(0, abc))
	if e := g.Add(nil); e != api.OK {
		t.Errorf("Add of no changes: error %d", e)
	}
	check(t, "no changes behind one", &g, b)
}

// P16.1: of a nil ledger: ErrNone, whatever is added, and nothing.
func TestNil(t *testing.T) {
	var g *ledger.Ledger
	for _, l := range [][]api.Change{nil, {}, {put(0, abc)}, {put(1, abc)}, {back(0, abc)}, {put(0, abc), put(0, abc)}} {
		if e := g.Add(l); e != api.ErrNone {
			t.Errorf("Add(%+v) = %d", l, e)
		}
		check(t, "nil", g, nil)
	}
}

// P16.1: each change of a window, step by step, and all that isn't next at that step.
func TestStepByStep(t *testing.T) {
	var g ledger.Ledger
	var b book
	for rev := range uint64(6) {
		p := abc
		p.A = tellings[rev]
		for _, other := range []uint64{rev - 1, rev + 1, rev + 2, rev + 256, rev + 1<<32, math.MaxUint64, 1 << 63} {
			mustRefuse(t, "told in another revision", &g, b, put(other, p))
		}
		for other := range rev {
			mustRefuse(t, "told in a revision that was", &g, b, put(other, p))
		}
		for other := range rev + 2 {
			mustRefuse(t, "not there", &g, b, back(other, p))
		}
		b = mustAdd(t, "told", &g, b, put(rev, p))

		for other := range rev + 3 {
			mustRefuse(t, "there already", &g, b, put(other, p))
			if other != rev {
				mustRefuse(t, "there in another revision", &g, b, back(other, p))
			}
		}
		for _, a := range tellings {
			if !alike(a, p.A) {
				mustRefuse(t, "told otherwise", &g, b, back(rev, pane(p.Key, p.W, a)))
			}
		}
		b = mustAdd(t, "taken back", &g, b, back(rev, p))
	}
}

// P16.1: revisions are 0, 1, 2 .. however many.
func TestManyRevisions(t *testing.T) {
	var g ledger.Ledger
	var b book
	for rev := range uint64(300) {
		p := abc
		p.A = tellings[rev%uint64(len(tellings))]
		b = append(b, put(rev, p), back(rev, p))
		if e := g.Add([]api.Change{put(rev, p)}); e != api.OK {
			t.Fatalf("told in revision %d: error %d", rev, e)
		}
		if e := g.Add([]api.Change{back(rev, p)}); e != api.OK {
			t.Fatalf("taken back in revision %d: error %d", rev, e)
		}
	}
	check(t, "many revisions", &g, b)
	mustRefuse(t, "the first revision", &g, b, put(0, abc))
	mustRefuse(t, "the last revision", &g, b, put(299, abc))
	mustAdd(t, "the next revision", &g, b, put(300, abc))
}

// P16.1: what is told is taken back as that, by bits: 0 and -0 are two, all that is no number is one.
func TestTakenBackAsTold(t *testing.T) {
	for i, told := range tellings {
		for k, taken := range tellings {
			var g ledger.Ledger
			b := mustAdd(t, "told", &g, nil, put(0, pane("a", win(0, 1), told)))
			c := back(0, pane("a", win(0, 1), taken))
			if i == k {
				mustAdd(t, "as it was told", &g, b, c)
			} else {
				mustRefuse(t, "as another", &g, b, c)
			}
		}
	}
}

// P16.1: another telling in one of its parts alone.
func TestTakenBackOtherwiseInOnePart(t *testing.T) {
	for _, told := range tellings {
		others := map[string]api.Agg{}
		add := func(what string, change func(a *api.Agg)) {
			a := told
			change(&a)
			if !alike(a, told) {
				others[what] = a
			}
		}
		add("Count above", func(a *api.Agg) { a.Count++ })
		add("Count below", func(a *api.Agg) { a.Count-- })
		add("Count", func(a *api.Agg) { a.Count ^= 1 << 63 })
		add("Over", func(a *api.Agg) { a.Over = !a.Over })
		for _, x := range []float64{0, minusZero, 1, -1, 5e-324, plusInf, minusInf, nan} {
			add("Sum", func(a *api.Agg) { a.Sum = x })
			add("Min", func(a *api.Agg) { a.Min = x })
			add("Max", func(a *api.Agg) { a.Max = x })
		}
		add("Sum's sign", func(a *api.Agg) { a.Sum = -a.Sum })
		add("Min's sign", func(a *api.Agg) { a.Min = -a.Min })
		add("Max's sign", func(a *api.Agg) { a.Max = -a.Max })
		add("Min and Max, one for the other", func(a *api.Agg) { a.Min, a.Max = a.Max, a.Min })
		for what, a := range others {
			var g ledger.Ledger
			b := mustAdd(t, "told", &g, nil, put(0, pane("a", win(0, 1), told)))
			mustRefuse(t, what, &g, b, back(0, pane("a", win(0, 1), a)))
			mustAdd(t, "as it was told", &g, b, back(0, pane("a", win(0, 1), told)))
		}
	}
}

// P16.1: what is no number is the same, whatever its bits are.
func TestTakenBackAsNoNumber(t *testing.T) {
	for _, x := range append([]float64{nan}, none...) {
		for _, y := range append([]float64{nan}, none...) {
			var g ledger.Ledger
			told, taken := api.Agg{Count: 2, Sum: x, Min: y, Max: x}, api.Agg{Count: 2, Sum: y, Min: x, Max: y}
			mustAdd(t, "no numbers", &g, nil, put(0, pane("a", win(0, 1), told)), back(0, pane("a", win(0, 1), taken)))
		}
	}
}

// P16.1: windows that differ in one of key, start and end alone are two: each goes by revisions of its own, and View has them rising, in whichever order they came.
func TestUnlikeWindows(t *testing.T) {
	panes := risen()
	r := rand.New(rand.NewPCG(16, 1))
	for range 20 {
		order := r.Perm(len(panes))
		var g ledger.Ledger
		var b book
		for _, i := range order {
			b = append(b, put(0, panes[i]))
		}
		if e := g.Add(b); e != api.OK {
			t.Fatalf("Add: error %d", e)
		}
		if view := g.View(); !samePanes(view, panes) {
			t.Fatalf("View = %+v", view)
		}
		check(t, "all are there", &g, b)
		for n, i := range order[:20] {
			mustRefuse(t, "there already", &g, b, put(0, panes[i]))
			b = mustAdd(t, "taken back", &g, b, back(0, panes[i]))
			mustRefuse(t, "not there", &g, b, back(0, panes[i]))
			if n%2 == 0 {
				b = mustAdd(t, "told anew", &g, b, put(1, panes[i]))
			}
		}
	}
}

// P16.1: a change of one window plays no part for one that differs in one thing alone.
func TestOneWindowBesideAnother(t *testing.T) {
	others := []api.Pane{
		{Key: "ab", W: abc.W}, {Key: "abd", W: abc.W}, {Key: "abc\x00", W: abc.W}, {Key: "ABC", W: abc.W},
		{Key: "abc", W: win(1, 10)}, {Key: "abc", W: win(-1, 10)}, {Key: "abc", W: win(0, 9)}, {Key: "abc", W: win(0, 11)},
		{Key: "abc", W: win(10, 0)}, {Key: "abc", W: win(0, 10+1<<32)}, {Key: "abc", W: win(1<<32, 10)},
	}
	for _, p := range others {
		p.A = abc.A
		var g ledger.Ledger
		b := mustAdd(t, "one", &g, nil, put(0, abc))
		mustRefuse(t, "another isn't there", &g, b, back(0, p))
		mustRefuse(t, "another isn't told in revision 1", &g, b, put(1, p))
		b = mustAdd(t, "another", &g, b, put(0, p))
		b = mustAdd(t, "one is taken back", &g, b, back(0, abc))
		mustRefuse(t, "another is in revision 0", &g, b, put(1, p))
		mustRefuse(t, "another is in revision 0", &g, b, back(1, p))
		mustAdd(t, "another is taken back", &g, b, back(0, p), put(1, p), put(1, abc))
	}
}

// P16.1: several changes of one window in one list, each behind those ahead of it in the list, too.
func TestSeveralInOneList(t *testing.T) {
	p, q := abc, abc
	q.A = tellings[12]
	other := pane("b", win(0, 10), tellings[1])
	for _, x := range []struct {
		what  string
		ahead []api.Change
		l     []api.Change
		ok    bool
	}{
		{"told and taken back", nil, []api.Change{put(0, p), back(0, p)}, true},
		{"told twice", nil, []api.Change{put(0, p), put(0, p)}, false},
		{"told twice, in two revisions", nil, []api.Change{put(0, p), put(1, p)}, false},
		{"taken back, and told", nil, []api.Change{back(0, p), put(0, p)}, false},
		{"taken back twice", nil, []api.Change{put(0, p), back(0, p), back(0, p)}, false},
		{"taken back in the next revision", nil, []api.Change{put(0, p), back(1, p)}, false},
		{"taken back as another", nil, []api.Change{put(0, p), back(0, q)}, false},
		{"told anew in the same revision", nil, []api.Change{put(0, p), back(0, p), put(0, q)}, false},
		{"told anew in the revision behind the next", nil, []api.Change{put(0, p), back(0, p), put(2, q)}, false},
		{"told anew as another", nil, []api.Change{put(0, p), back(0, p), put(1, q), back(1, q), put(2, p)}, true},
		{"told anew, taken back as it was told first", nil, []api.Change{put(0, p), back(0, p), put(1, q), back(1, p)}, false},
		{"another between", nil, []api.Change{put(0, p), put(0, other), back(0, p), back(0, other), put(1, other), put(1, p)}, true},
		{"another between, that isn't next", nil, []api.Change{put(0, p), put(1, other), back(0, p)}, false},

		{"there: taken back, and told anew", []api.Change{put(0, p)}, []api.Change{back(0, p), put(1, q)}, true},
		{"there: told anew as it was", []api.Change{put(0, p)}, []api.Change{back(0, p), put(1, p), back(1, p)}, true},
		{"there: taken back twice", []api.Change{put(0, p)}, []api.Change{back(0, p), back(0, p)}, false},
		{"there: taken back, told in revision 0", []api.Change{put(0, p)}, []api.Change{back(0, p), put(0, q)}, false},
		{"there: told, taken back", []api.Change{put(0, p)}, []api.Change{put(1, q), back(0, p)}, false},
		{"there: taken back as it is told behind that", []api.Change{put(0, p)}, []api.Change{back(0, q), put(1, q)}, false},
		{"not there: told in the next revision", []api.Change{put(0, p), back(0, p)}, []api.Change{put(1, q), back(1, q), put(2, p)}, true},
		{"not there: told in revision 0", []api.Change{put(0, p), back(0, p)}, []api.Change{put(0, q)}, false},
		{"not there: taken back again", []api.Change{put(0, p), back(0, p)}, []api.Change{back(0, p), put(1, q)}, false},
		{"another is there", []api.Change{put(0, other)}, []api.Change{put(0, p), back(0, other), put(1, other)}, true},
	} {
		g := ledgerOf(t, x.ahead)
		if x.ok {
			mustAdd(t, x.what, g, x.ahead, x.l...)
		} else {
			mustRefuse(t, x.what, g, x.ahead, x.l...)
		}
	}
}

// P16.1: of a list in which one change isn't next, wherever it stands, nothing is taken, and what was next still is.
func TestAllOrNone(t *testing.T) {
	r := rand.New(rand.NewPCG(16, 2))
	for range 40 {
		whole := someBook(r, 30)
		ahead, l := whole[:10:10], whole[10:]
		g := ledgerOf(t, ahead)
		for i := range l {
			for range 5 {
				bad := slices.Clone(l)
				bad[i] = spoil(r, bad[i])
				if _, e := ahead.add(bad); e == api.ErrOrder {
					mustRefuse(t, i, g, ahead, bad...)
				}
			}
			twice := slices.Insert(slices.Clone(l), i, l[i])
			mustRefuse(t, i, g, ahead, twice...)
			if _, e := ahead.add(slices.Delete(slices.Clone(l), i, i+1)); e == api.ErrOrder {
				mustRefuse(t, i, g, ahead, slices.Delete(slices.Clone(l), i, i+1)...)
			}
		}
		mustAdd(t, "all are next", g, ahead, l...)
	}
}

// P16.1: the same changes at once, one by one, and some by some.
func TestAtOnceAndOneByOne(t *testing.T) {
	r := rand.New(rand.NewPCG(16, 3))
	for n := range 100 {
		b := someBook(r, n)
		check(t, "one by one", ledgerOf(t, b), b)
		var once, parts ledger.Ledger
		mustAdd(t, "at once", &once, nil, b...)
		var done book
		for len(done) < len(b) {
			next := min(len(b), len(done)+r.IntN(6))
			done = mustAdd(t, "some by some", &parts, done, b[len(done):next]...)
		}
	}
}

// P16.1: lists of changes of all kinds, of which some are next.
func TestAgainstBook(t *testing.T) {
	r := rand.New(rand.NewPCG(16, 4))
	taken, refused := 0, 0
	for range 200 {
		var g ledger.Ledger
		var b book
		for range 30 {
			rest := someBook(r, len(b)+8)
			// What is next behind b is looked for, and some of it is spoilt.
			var l []api.Change
			behind := b
			for _, c := range rest {
				if behind.next(c) && r.IntN(3) > 0 {
					if r.IntN(8) == 0 {
						c = spoil(r, c)
					}
					l, behind = append(l, c), append(slices.Clone(behind), c)
				}
			}
			with := checkAdd(t, "any list", &g, b, l...)
			if len(with) > len(b) {
				taken++
			} else if len(l) > 0 {
				refused++
			}
			b = with
		}
	}
	if taken < 1000 || refused < 300 {
		t.Errorf("%d lists were taken, %d refused: too few", taken, refused)
	}
}

// P5: of whatever Add took each window was told in revisions 0, 1, 2 .., and taken back as it was told.
func TestByTheBook(t *testing.T) {
	r := rand.New(rand.NewPCG(16, 5))
	var g ledger.Ledger
	panes := somePanes()
	for range 20000 {
		p := panes[r.IntN(len(panes))]
		p.A = tellings[r.IntN(4)]
		g.Add([]api.Change{{Put: r.IntN(2) == 0, Rev: r.Uint64N(40), P: p}})
	}
	for _, p := range panes {
		var of []api.Change
		for _, c := range g.All() {
			if c.P.Key == p.Key && c.P.W == p.W {
				of = append(of, c)
			}
		}
		for i, c := range of {
			if c.Put != (i%2 == 0) || c.Rev != uint64(i/2) || !c.Put && !alike(c.P.A, of[i-1].P.A) {
				t.Fatalf("change %d of %q, %v is %+v behind %+v", i, p.Key, p.W, c, of[:i])
			}
		}
		if len(of) < 5 {
			t.Errorf("%q, %v: %d changes were taken: too few", p.Key, p.W, len(of))
		}
	}
}

// P16.1, P1: many windows, changed one by one, and at once.
func TestMany(t *testing.T) {
	const n = 30000
	var one, once ledger.Ledger
	var l []api.Change
	for i := range int64(n) {
		p := pane("many", win(i, i+1), api.Agg{Count: uint64(i)})
		l = append(l, put(0, p))
	}
	for i := n - 1; i >= 0; i -= 2 {
		l = append(l, back(0, l[i].P))
	}
	for i := n - 1; i >= 0; i -= 4 {
		l = append(l, put(1, l[i].P))
	}
	if e := once.Add(l); e != api.OK {
		t.Fatalf("at once: error %d", e)
	}
	for i := range l {
		if e := one.Add(l[i : i+1]); e != api.OK {
			t.Fatalf("change %d: error %d", i, e)
		}
	}
	view := once.View()
	if !samePanes(view, one.View()) || !same(once.All(), l) || !same(one.All(), l) || one.Len() != len(l) {
		t.Error("at once isn't as one by one")
	}
	if want := n/2 + n/4; len(view) != want {
		t.Errorf("View has %d panes, not %d", len(view), want)
	}
	for i := 1; i < len(view); i++ {
		if view[i-1].W.Start >= view[i].W.Start {
			t.Fatalf("%+v stands ahead of %+v", view[i-1], view[i])
		}
	}
}

// P1: changes of any kind are taken, or refused.
func TestAnyChanges(t *testing.T) {
	var g ledger.Ledger
	var b book
	for _, c := range []api.Change{
		put(0, api.Pane{}), back(0, api.Pane{}), put(1, api.Pane{}),
		put(0, pane(longest+longest, win(7, -7), api.Agg{Count: math.MaxUint64, Sum: none[1], Over: true, Min: plusInf, Max: minusInf})),
		put(math.MaxUint64, pane("a", win(0, 1), api.Agg{})), back(math.MaxUint64, api.Pane{}),
		back(0, pane(longest+longest, win(7, -7), api.Agg{Count: math.MaxUint64, Sum: nan, Over: true, Min: plusInf, Max: minusInf})),
	} {
		b = checkAdd(t, c, &g, b, c)
	}
	if len(b) != 5 {
		t.Errorf("%d changes were taken", len(b))
	}
}

// overwrite has other things in all of a list, and in the room behind it.
func overwrite[T any](l []T, x T) {
	l = l[:cap(l)]
	for i := range l {
		l[i] = x
	}
}

// P2: what is handed in isn't changed, and may be written over, and so may what is answered.
func TestMemory(t *testing.T) {
	r := rand.New(rand.NewPCG(16, 6))
	other := put(77, pane("other", win(5, 6), tellings[7]))
	var g ledger.Ledger
	var b book
	whole := someBook(r, 60)
	for len(b) < len(whole) {
		n := min(1+r.IntN(5), len(whole)-len(b))
		l := make([]api.Change, n, n+3)
		copy(l, whole[len(b):])
		room := l[:cap(l)]
		for i := n; i < len(room); i++ {
			room[i] = other
		}
		b = mustAdd(t, "taken", &g, b, l...)
		if !same(l, b[len(b)-n:]) || !same(room[n:], []api.Change{other, other, other}) {
			t.Fatalf("what was handed in was changed: %+v", room)
		}
		overwrite(l, other)
		check(t, "handed in is written over", &g, b)
		overwrite(g.All(), other)
		overwrite(g.View(), other.P)
		check(t, "answered is written over", &g, b)
	}
}

// P2: two answers share nothing, nor do an answer and what is added behind it.
func TestAnswersShareNothing(t *testing.T) {
	b := someBook(rand.New(rand.NewPCG(16, 7)), 20)
	g := ledgerOf(t, b[:10])
	all, view := g.All(), g.View()
	again, viewed := g.All(), g.View()
	overwrite(again, api.Change{})
	overwrite(viewed, api.Pane{})
	b = mustAdd(t, "behind answers", g, b[:10:10], b[10:]...)
	if !same(all, b[:10]) || !samePanes(view, b[:10].view()) {
		t.Errorf("answered were %+v, %+v", all, view)
	}
}

// P2: ledgers know nothing of one another; a refused list's changes are forgotten.
func TestTwoLedgers(t *testing.T) {
	var a, b ledger.Ledger
	ofA := mustAdd(t, "one", &a, nil, put(0, abc))
	ofB := mustAdd(t, "another", &b, nil, put(0, abc), back(0, abc))
	mustRefuse(t, "one", &a, ofA, back(0, abc), put(1, abc), put(1, abc))
	mustRefuse(t, "another", &b, ofB, back(0, abc))
	mustAdd(t, "one", &a, ofA, back(0, abc))
	mustAdd(t, "another", &b, ofB, put(1, abc))
	check(t, "a third one", new(ledger.Ledger), nil)
}

// P2: what is told is told again, whatever order a map is gone through in.
func TestToldAgain(t *testing.T) {
	var g ledger.Ledger
	var b book
	for _, p := range risen() {
		b = append(b, put(0, p))
	}
	slices.Reverse(b)
	g.Add(b)
	for range 50 {
		check(t, "again", &g, b)
	}
}
