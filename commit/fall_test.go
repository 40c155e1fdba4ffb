package commit_test

import (
	"bytes"
	"fmt"
	"math/rand/v2"
	"slices"
	"strings"
	"testing"

	"headrace/api"
	"headrace/batch"
	"headrace/commit"
	"headrace/files"
	"headrace/ledger"
	"headrace/stream"
)

// fall is a store and what is to be put into it.
type fall struct {
	m     model
	left  bool
	state []byte
	l     []api.Change
}

func falls() []fall {
	r := rand.New(rand.NewPCG(18, 50))
	var l []fall
	for n := range 4 {
		for _, left := range []bool{false, true} {
			l = append(l, fall{someModel(r, n), left, []byte("state"), x}, fall{someModel(r, n), left, nil, nil})
		}
	}
	return l
}

func (f fall) String() string {
	return fmt.Sprintf("%d commits, left: %v, %d bytes, %d changes", len(f.m), f.left, len(f.state), len(f.l))
}

func (f fall) after() model {
	return f.m.with(f.state, f.l)
}

// store is the store ahead of the Put.
func (f fall) store(t testing.TB) *files.Store {
	t.Helper()
	s := newStore(t, bigRoom)
	f.m.lay(t, s)
	putAll(t, s, map[string]string{"other": "o", "state.x": "o"})
	if f.left {
		for _, name := range []string{"man.tmp", fmt.Sprintf("out.%d", f.m.next()), fmt.Sprintf("state.%d", f.m.next()), "out.77"} {
			// What was left isn't durable as a whole.
			put(t, s, name, []byte("le"))
			check(t, "Append", s.Append(name, []byte("ft")), api.OK)
		}
	}
	return s
}

var otherFiles = map[string]string{"other": "o", "state.x": "o"}

// keeps are all that may be kept of bytes that aren't durable: none, one .., all.
func (f fall) keeps() []int {
	l := []int{-1}
	for n := range max(len(f.state), len(outOf(f.l)), len(manOf(1)), 4) + 1 {
		l = append(l, n)
	}
	return l
}

// kept is the same of each file.
func kept(n int) []int {
	return slices.Repeat([]int{n}, 40)
}

// cut arms a store, and does what is to be cut; false: it takes fewer operations, and was done.
func cut(t testing.TB, what string, s *files.Store, n int, do func() api.Errno) bool {
	t.Helper()
	check(t, "Arm", s.Arm(n), api.OK)
	e := do()
	if s.On() {
		check(t, what, e, api.OK)
		check(t, "Arm", s.Arm(0), api.OK)
		return false
	}
	check(t, what, e, api.ErrCrash)
	checkError(t, what+", without power", s, api.ErrCrash)
	return true
}

// put is the Put, recover is Recover's error.
func (f fall) put(s *files.Store) func() api.Errno {
	return func() api.Errno { return commit.Put(s, f.m.next(), f.state, f.l) }
}

func recoverOf(s *files.Store) func() api.Errno {
	return func() api.Errno {
		_, _, _, e := commit.Recover(s)
		return e
	}
}

// checkOneOf holds a store against two models, one of which it must be, and answers that.
func checkOneOf(t testing.TB, what string, s *files.Store, before, after model) model {
	t.Helper()
	n, state, l, e := commit.Recover(s)
	if e != api.OK || !before.tells(n, state, l) && !after.tells(n, state, l) {
		t.Fatalf("%s: Recover = %d, %q, %d changes, error %d; neither %d commits nor %d", what, n, state, len(l), e, len(before), len(after))
	}
	m := before
	if n == uint64(len(after)) {
		m = after
	}
	checkAll(t, what, s, m, otherFiles)
	return m
}

// fallen is a store in which the power went off in the n-th operation of the Put, and on again; false: it takes fewer.
func (f fall) fallen(t testing.TB, n, keep int) (*files.Store, bool) {
	t.Helper()
	s := f.store(t)
	fell := cut(t, f.String(), s, n, f.put(s))
	check(t, "Restart", s.Restart(kept(keep)), api.OK)
	return s, fell
}

// P18.2: whatever operation of Put the power goes off in, and whatever is kept, it is done as a whole, or not at all; what it has come to can be gone on with.
func TestFalls(t *testing.T) {
	for _, f := range falls() {
		done, undone := 0, 0
		for n := 1; ; n++ {
			s, fell := f.fallen(t, n, -1)
			if !fell {
				checkAll(t, f.String(), s, f.after(), otherFiles)
				break
			}
			for _, keep := range f.keeps() {
				s, _ := f.fallen(t, n, keep)
				what := fmt.Sprintf("%v, off in operation %d, %d bytes kept", f, n, keep)
				m := checkOneOf(t, what, s, f.m, f.after())
				if len(m) > len(f.m) {
					done++
				} else {
					undone++
				}
				m = checkPut(t, what, s, m, []byte("next"), y)
				checkAll(t, what+", and more", s, m, otherFiles)
			}
		}
		// Only what goes behind the commit can be cut when it is done: the state ahead.
		if undone < 7*len(f.keeps()) || done != min(len(f.m), 1)*len(f.keeps()) {
			t.Errorf("%v: %d times done, %d not", f, done, undone)
		}
	}
}

// P18.2: the same without Recover between: the Put comes again at once, and is done, or was.
func TestFallsThenPut(t *testing.T) {
	for _, f := range falls() {
		for n := 1; ; n++ {
			if _, fell := f.fallen(t, n, -1); !fell {
				break
			}
			for _, keep := range f.keeps() {
				s, _ := f.fallen(t, n, keep)
				what := fmt.Sprintf("%v, off in operation %d, %d bytes kept", f, n, keep)
				if e := f.put(s)(); e != api.OK {
					check(t, what+": again", e, api.ErrOrder)
				}
				m := f.after()
				if n%2 == 0 {
					m = checkPut(t, what, s, m, []byte("next"), y)
				}
				checkAll(t, what, s, m, otherFiles)
			}
		}
	}
}

// P18.2: Recover behind the Restart is cut, too, in each operation, and the one behind that.
func TestFallsInRecover(t *testing.T) {
	for _, f := range falls() {
		cuts := 0
		for n := 1; ; n++ {
			if _, fell := f.fallen(t, n, -1); !fell {
				break
			}
			for i, keep := range f.keeps() {
				for k := 1; ; k++ {
					s, _ := f.fallen(t, n, keep)
					what := fmt.Sprintf("%v, off in operation %d, %d bytes kept, and in %d of Recover", f, n, keep, k)
					if !cut(t, what, s, k, recoverOf(s)) {
						break
					}
					cuts++
					check(t, "Restart", s.Restart(kept(i-1)), api.OK)
					if k%2 == 0 && cut(t, what+", and again", s, 1, recoverOf(s)) {
						check(t, "Restart", s.Restart(nil), api.OK)
					}
					checkOneOf(t, what, s, f.m, f.after())
				}
			}
		}
		if cuts < 10*len(f.keeps()) {
			t.Errorf("%v: Recover was cut %d times", f, cuts)
		}
	}
}

// P18.2: Put behind the Restart is cut, too, in each operation, with each number of bytes kept.
func TestFallsInPutAgain(t *testing.T) {
	for _, f := range falls() {
		for n := 1; ; n++ {
			if _, fell := f.fallen(t, n, -1); !fell {
				break
			}
			for i, keep := range f.keeps() {
				again := f.keeps()
				if i > 0 {
					again = again[i%len(again) : i%len(again)+1]
				}
				for k := 1; f.fallAgain(t, n, keep, k, again); k++ {
				}
			}
		}
	}
}

// fallAgain cuts the Put in its n-th operation, and then in its k-th; false: it takes fewer.
func (f fall) fallAgain(t *testing.T, n, keep, k int, again []int) bool {
	t.Helper()
	for _, keep2 := range again {
		s, _ := f.fallen(t, n, keep)
		what := fmt.Sprintf("%v, off in operation %d, %d bytes kept, and in %d, %d kept", f, n, keep, k, keep2)
		m, _ := lastOf(filesOf(t, s))
		if m == f.m.next() || !cut(t, what, s, k, f.put(s)) {
			return false
		}
		check(t, "Restart", s.Restart(kept(keep2)), api.OK)
		checkOneOf(t, what, s, f.m, f.after())
	}
	return true
}

// P18.2: until the operation that makes it one there is nothing of a commit; behind it there is all, durable: each byte was synced ahead of it.
func TestDurable(t *testing.T) {
	for _, f := range falls() {
		s := f.store(t)
		check(t, f.String(), f.put(s)(), api.OK)
		for range 3 {
			check(t, "Restart", s.Restart(kept(0)), api.OK)
			checkFiles(t, f.String(), s, f.after(), otherFiles)
		}
		checkRecover(t, f.String(), s, f.after())
	}
}

// operatorRun commits what an operator is and told, event by event, in a store in which the power goes off once; it answers what is committed at last.
func operatorRun(t *testing.T, off int) (state []byte, l []api.Change, fell bool) {
	t.Helper()
	s := newStore(t, bigRoom)
	check(t, "Arm", s.Arm(off), api.OK)
	o, n := recovered(t, s)
	for i := uint64(0); i < 16; i++ {
		check(t, "In", o.In(api.Event{Offset: i, Time: int64(i * 37 % 60), Key: "k", Val: float64(i)}), api.OK)
		if e := commit.Put(s, n+1, o.Save(), o.Out()); e != api.OK {
			check(t, "Put", e, api.ErrCrash)
			check(t, "Restart", s.Restart(kept(off%7)), api.OK)
			fell = true
			// Each commit is of one event: those behind the last one come again.
			o, n = recovered(t, s)
			i = n - 1
			continue
		}
		n++
	}
	check(t, "Arm", s.Arm(0), api.OK)
	check(t, "End", o.End(), api.OK)
	check(t, "Put", commit.Put(s, n+1, o.Save(), o.Out()), api.OK)
	_, state, l, e := commit.Recover(s)
	check(t, "Recover", e, api.OK)
	return state, l, fell
}

// recovered is the operator that a store has, and of which commit it is.
func recovered(t *testing.T, s *files.Store) (*stream.Operator, uint64) {
	t.Helper()
	n, state, _, e := commit.Recover(s)
	check(t, "Recover", e, api.OK)
	o, e := stream.New(api.Config{Size: 10, Late: 20, Parts: 1}, batch.Boot{})
	if n > 0 {
		o, e = stream.Load(state)
	}
	check(t, "the operator", e, api.OK)
	return o, n
}

// P6: an operator's bytes and all that it told, with a fall in each operation of each commit: at last all is as if there had been none, and goes by the book.
func TestOperatorThroughFalls(t *testing.T) {
	wantState, want, _ := operatorRun(t, 0)
	if len(want) < 10 {
		t.Fatalf("%d changes", len(want))
	}
	for off := 1; ; off++ {
		state, l, fell := operatorRun(t, off)
		if !same(l, want) || !bytes.Equal(state, wantState) {
			t.Fatalf("off in operation %d: %+v; not %+v", off, l, want)
		}
		var g ledger.Ledger
		check(t, "ledger.Add", g.Add(l), api.OK)
		if !fell {
			if off < 16*7 {
				t.Errorf("%d operations", off-1)
			}
			return
		}
	}
}

// P18.2: whatever is done, with falls anywhere, room that ends, files that are left, and numbers that aren't the next.
func TestAnySteps(t *testing.T) {
	told := map[api.Errno]int{}
	done := 0
	for seed := range uint64(150) {
		r := rand.New(rand.NewPCG(18, seed))
		s := newStore(t, 500+r.IntN(4000))
		putAll(t, s, otherFiles)
		var m model
		for range 60 {
			what := fmt.Sprintf("seed %d, %d commits", seed, len(m))
			if r.IntN(5) == 0 {
				name := leftNames()[r.IntN(len(leftNames()))]
				if _, is := m.files()[name]; !is {
					s.Append(name, []byte(strings.Repeat("l", r.IntN(9))))
				}
			}
			if r.IntN(2) == 0 {
				check(t, "Arm", s.Arm(1+r.IntN(12)), api.OK)
			}
			n, want := m.next(), api.OK
			switch r.IntN(12) {
			case 0:
				n = uint64(r.IntN(int(n) + 5))
			case 1:
				m = checkStep(t, what, s, r, m, m, recoverOf(s)())
				continue
			}
			if n != m.next() {
				want = api.ErrOrder
			}
			if n == 0 {
				want = api.ErrArg
			}
			state, l := someBytes(r, r.IntN(60)), someChanges(r, r.IntN(4))
			e := commit.Put(s, n, state, l)
			told[e]++
			if want != api.OK {
				check(t, what, e, want)
				continue
			}
			before := len(m)
			m = checkStep(t, what, s, r, m, m.with(state, l), e)
			if e == api.ErrCrash && len(m) > before {
				done++
			}
		}
	}
	if told[api.OK] < 1000 || told[api.ErrCrash] < 500 || told[api.ErrFull] < 100 || told[api.ErrOrder] < 200 || done < 20 {
		t.Errorf("told: %v; done though cut: %d", told, done)
	}
}

// checkStep looks what a step has come to by its error, behind a fall if it was cut.
func checkStep(t *testing.T, what string, s *files.Store, r *rand.Rand, before, after model, e api.Errno) model {
	t.Helper()
	if e == api.ErrCrash {
		keep := make([]int, r.IntN(9))
		for i := range keep {
			keep[i] = r.IntN(100) - 10
		}
		check(t, "Restart", s.Restart(keep), api.OK)
		return checkOneOf(t, what, s, before, after)
	}
	check(t, "Arm", s.Arm(0), api.OK)
	if e == api.ErrFull {
		checkAll(t, what, s, before, otherFiles)
		return before
	}
	check(t, what, e, api.OK)
	checkAll(t, what, s, after, otherFiles)
	return after
}
