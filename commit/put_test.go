package commit_test

import (
	"bytes"
	"fmt"
	"math"
	"math/rand/v2"
	"slices"
	"strings"
	"testing"

	"headrace/api"
	"headrace/commit"
	"headrace/files"
	"headrace/ledger"
)

// P18.1: the chapter's example.
func TestExample(t *testing.T) {
	s := newStore(t, bigRoom)
	check(t, "Put(1)", commit.Put(s, 1, []byte("a"), x), api.OK)
	check(t, "Put(2)", commit.Put(s, 2, []byte("b"), y), api.OK)
	n, state, l, e := commit.Recover(s)
	if n != 2 || string(state) != "b" || !same(l, slices.Concat(x, y)) || e != api.OK {
		t.Errorf("Recover = %d, %q, %+v, error %d", n, state, l, e)
	}
}

// P18.1: the files, written out.
func TestFilesWrittenOut(t *testing.T) {
	s := newStore(t, bigRoom)
	for _, step := range []struct {
		state string
		l     []api.Change
		want  map[string]string
	}{
		{"abc", nil, map[string]string{
			"man":     string(pageOf('m', []byte("\x01"))),
			"state.1": "abc",
			"out.1":   string(pageOf('l', []byte("\x00"))),
		}},
		{"", []api.Change{{Put: true, Rev: 2, P: api.Pane{Key: "k", W: api.Window{Start: -1, End: 64}, A: api.Agg{Count: 1}}}}, map[string]string{
			"man":     string(pageOf('m', []byte("\x02"))),
			"state.2": "",
			"out.1":   string(pageOf('l', []byte("\x00"))),
			"out.2":   string(pageOf('l', []byte("\x01"+"\x01\x02"+"\x01k"+"\x01\x80\x01"+"\x01\x00\x00\x00\x00"))),
		}},
	} {
		check(t, "Put", commit.Put(s, uint64(len(step.want)-2), []byte(step.state), step.l), api.OK)
		for name, want := range step.want {
			if p, e := s.Read(name); string(p) != want || e != api.OK {
				t.Errorf("%s is %q, error %d; not %q", name, p, e, want)
			}
		}
		if l := s.List(); len(l) != len(step.want) {
			t.Errorf("files %q", l)
		}
	}
}

// P18.1: the file man of some numbers, written out.
func TestManWrittenOut(t *testing.T) {
	for n, want := range map[int]string{1: "\x01", 2: "\x02", 124: "\x7c", most: "\x7d"} {
		s := newStore(t, bigRoom)
		m := someModel(rand.New(rand.NewPCG(18, 1)), n-1)
		m.lay(t, s)
		checkPut(t, "the next one", s, m, nil, nil)
		if p, e := s.Read("man"); !bytes.Equal(p, pageOf('m', []byte(want))) || e != api.OK {
			t.Errorf("man of %d is %x, error %d", n, p, e)
		}
	}
}

// P18.1: a state stands in the place of the one ahead, whichever is longer, changes stand behind those ahead, whichever are none.
func TestPuts(t *testing.T) {
	for seed := range uint64(20) {
		r := rand.New(rand.NewPCG(18, seed))
		s := newStore(t, bigRoom)
		var m model
		for range 12 {
			state := someBytes(r, []int{0, 0, 1, 2, 100, 5000}[r.IntN(6)])
			l := someChanges(r, []int{0, 0, 1, 2, 50}[r.IntN(5)])
			m = checkPut(t, "in a row", s, m, state, l)
			checkAll(t, fmt.Sprintf("seed %d, %d commits", seed, len(m)), s, m, nil)
		}
	}
}

// P18.1: a number of every kind of change.
func TestPutOfEachKind(t *testing.T) {
	var l []api.Change
	for _, put := range []bool{false, true} {
		for _, rev := range []uint64{0, 1, 127, 128, 1<<40 - 1, 1 << 40} {
			for _, key := range []string{"", "\x00", "a", "é", longest} {
				for _, a := range tellings {
					l = append(l, api.Change{Put: put, Rev: rev, P: api.Pane{Key: key, W: api.Window{Start: math.MinInt64, End: math.MaxInt64}, A: a}})
				}
			}
		}
	}
	s := newStore(t, bigRoom)
	m := checkPut(t, "of all kinds", s, nil, nil, l)
	m = checkPut(t, "the same ones", s, m, nil, l)
	checkAll(t, "of all kinds", s, m, nil)
}

// P18.1: states of many bytes, more than a page may have.
func TestPutOfLongStates(t *testing.T) {
	r := rand.New(rand.NewPCG(18, 3))
	s := newStore(t, api.MaxStore)
	var m model
	for _, n := range []int{api.MaxPage - 1, api.MaxPage, api.MaxPage + 1, 5 * api.MaxPage, 0} {
		m = checkPut(t, "a long state", s, m, someBytes(r, n), x)
		checkAll(t, fmt.Sprintf("a state of %d bytes", n), s, m, nil)
	}
}

// P18.1: as many commits as there may be; one more isn't.
func TestAllCommits(t *testing.T) {
	r := rand.New(rand.NewPCG(18, 4))
	s := newStore(t, bigRoom)
	var m model
	for range most {
		m = checkPut(t, "in a row", s, m, someBytes(r, r.IntN(9)), someChanges(r, r.IntN(3)))
		checkFiles(t, "in a row", s, m, nil)
	}
	checkAll(t, "as many as can be", s, m, nil)
	checkRefused(t, "one more", s, most+1, nil, nil, api.ErrArg)
	checkRefused(t, "the last one again", s, most, nil, nil, api.ErrOrder)
	checkAll(t, "as many as can be", s, m, nil)
}

// noNumbers are none that a commit may have.
var noNumbers = []uint64{0, most + 1, most + 2, 250, 256, 257, api.MaxFiles, 1<<32 + 1, 1 << 63, math.MaxUint64}

// tooLong is a change that no page of changes has.
var tooLong = []api.Change{{P: api.Pane{Key: longest + "k"}}}

// P18.1: no store, whatever else is wrong.
func TestErrNone(t *testing.T) {
	for _, n := range append(noNumbers, 1, 2, most) {
		for _, l := range [][]api.Change{nil, x, tooLong} {
			checkRefused(t, "no store", nil, n, []byte("a"), l, api.ErrNone)
		}
	}
	checkError(t, "no store", nil, api.ErrNone)
}

// P18.1: a number that no commit has goes ahead of all that the store has.
func TestErrArg(t *testing.T) {
	for _, commits := range []int{0, 1, 3, most} {
		for what, spoil := range map[string]func(s *files.Store){
			"whole":       func(s *files.Store) {},
			"with left":   func(s *files.Store) { put(t, s, "man.tmp", nil) },
			"a spoilt":    func(s *files.Store) { put(t, s, "man", []byte("no page of any kind")) },
			"without it":  func(s *files.Store) { switchedOff(t, s) },
			"an arm of 1": func(s *files.Store) { check(t, "Arm", s.Arm(1), api.OK) },
		} {
			s := newStore(t, bigRoom)
			someModel(rand.New(rand.NewPCG(18, 5)), commits).lay(t, s)
			spoil(s)
			for _, n := range noNumbers {
				checkRefused(t, what, s, n, []byte("a"), x, api.ErrArg)
				checkRefused(t, what, s, n, nil, tooLong, api.ErrArg)
			}
		}
	}
}

// P18.1: each number but the next one, below and above it, whatever was left; ahead of changes that no page has, of room that there isn't, and of power that goes off.
func TestErrOrder(t *testing.T) {
	r := rand.New(rand.NewPCG(18, 6))
	for _, commits := range []int{0, 1, 2, 7, most - 1, most} {
		m := someModel(r, commits)
		for _, left := range []bool{false, true} {
			s := newStore(t, bigRoom)
			m.lay(t, s)
			putAll(t, s, others())
			if left {
				putLeft(t, s, m)
			}
			check(t, "Arm", s.Arm(1), api.OK)
			for n := uint64(1); n <= most; n++ {
				if n == m.next() {
					continue
				}
				checkRefused(t, "not the next one", s, n, []byte("a"), x, api.ErrOrder)
				checkRefused(t, "nor that", s, n, nil, tooLong, api.ErrOrder)
				checkRefused(t, "and no room", s, n, make([]byte, bigRoom+1), x, api.ErrOrder)
			}
			check(t, "Arm", s.Arm(0), api.OK)
			checkRecover(t, "refused", s, m)
			if commits < most {
				checkAll(t, "the next one", s, checkPut(t, "the next one", s, m, []byte("a"), x), others())
			}
		}
	}
}

// P18.1: without power, whatever the store has, and whichever commit it is: which one is the last can't be read.
func TestWithoutPower(t *testing.T) {
	for _, commits := range []int{0, 1, 3} {
		for _, spoilt := range []bool{false, true} {
			s := newStore(t, bigRoom)
			m := someModel(rand.New(rand.NewPCG(18, 7)), commits)
			m.lay(t, s)
			if spoilt {
				put(t, s, "man", []byte("no page of any kind"))
			}
			putLeft(t, s, m)
			switchedOff(t, s)
			for _, l := range [][]api.Change{nil, x, tooLong} {
				for n := uint64(1); n <= most; n++ {
					checkRefused(t, "without power", s, n, []byte("a"), l, api.ErrCrash)
				}
			}
			checkError(t, "without power", s, api.ErrCrash)
		}
	}
}

// P18.2: changes that couldn't be read back aren't put: all that was answered OK is there.
func TestPutOfChangesThatNoPageHas(t *testing.T) {
	r := rand.New(rand.NewPCG(18, 8))
	s := newStore(t, bigRoom)
	m := someModel(r, 3)
	m.lay(t, s)
	putLeft(t, s, m)
	check(t, "Arm", s.Arm(1), api.OK)
	for _, c := range []api.Change{
		tooLong[0],
		{P: api.Pane{Key: strings.Repeat("k", bigRoom)}},
		{Put: true, Rev: 1<<40 + 1},
		{Rev: math.MaxUint64},
		{Put: true, P: api.Pane{A: api.Agg{Count: 1<<40 + 1}}},
		{P: api.Pane{A: api.Agg{Count: math.MaxUint64}}},
	} {
		if _, e := ledger.Read(ledger.Lay([]api.Change{c})); e != api.ErrForm {
			t.Fatalf("%+v is read, error %d", c, e)
		}
		for _, ahead := range []int{0, 1, 9} {
			for _, behind := range []int{0, 1, 2, 100} {
				l := slices.Concat(someChanges(r, ahead), []api.Change{c}, someChanges(r, behind))
				checkRefused(t, "what no page has", s, 4, []byte("a"), l, api.ErrForm)
				checkRefused(t, "and no room", s, 4, make([]byte, bigRoom+1), l, api.ErrForm)
			}
		}
	}
	check(t, "Arm", s.Arm(0), api.OK)
	checkAll(t, "the next one", s, checkPut(t, "the next one", s, m, []byte("a"), x), nil)
}

// longChanges are changes that take so many bytes as a page's body.
func longChanges(t *testing.T, n int) []api.Change {
	t.Helper()
	change := func(key int) api.Change {
		return api.Change{Put: true, P: api.Pane{Key: longest[:key], A: api.Agg{Sum: 1}}}
	}
	const least, full, count = 18, 18 + api.MaxKey, 3
	long := (n-count)/full - 1
	rest := n - count - long*full
	l := append(slices.Repeat([]api.Change{change(api.MaxKey)}, long), change(rest/2-least), change(rest-rest/2-least))
	if p := outOf(l); len(p) != n+9 {
		t.Fatalf("%d bytes of changes, not %d", len(p)-9, n)
	}
	return l
}

// P18.1, P18.2: so many changes that a page of all of them would be one that isn't read are there all the same; up to that they are one page.
func TestPutOfManyChanges(t *testing.T) {
	for _, n := range []int{api.MaxPage - 1, api.MaxPage, api.MaxPage + 1, 2*api.MaxPage + 7, 5 * api.MaxPage} {
		l := longChanges(t, n)
		s := newStore(t, api.MaxStore)
		m := model(nil).with([]byte("a"), x)
		m.lay(t, s)
		check(t, "Put", commit.Put(s, 2, []byte("b"), l), api.OK)
		check(t, "Put", commit.Put(s, 3, nil, y), api.OK)
		all := slices.Concat(x, l, y)
		for range 2 {
			if got, state, back, e := commit.Recover(s); got != 3 || len(state) != 0 || !same(back, all) || e != api.OK {
				t.Fatalf("%d bytes of changes: Recover = %d, %q, %d changes, error %d", n, got, state, len(back), e)
			}
			check(t, "Restart", s.Restart(nil), api.OK)
		}
		p, e := s.Read("out.2")
		check(t, "Read", e, api.OK)
		if one := bytes.Equal(p, outOf(l)); one != (n <= api.MaxPage) {
			t.Errorf("%d bytes of changes: out.2 is one page: %v", n, one)
		}
	}
}

// Memory: what is handed in isn't changed, nor what stands behind it; it may be written over behind the call, and so may what is answered.
func TestMemory(t *testing.T) {
	r := rand.New(rand.NewPCG(18, 9))
	s := newStore(t, bigRoom)
	var m model
	for range 4 {
		state, l := someBytes(r, 20), someChanges(r, 5)
		stateRoom, lRoom := append(slices.Clone(state), "behind"...), append(slices.Clone(l), y...)
		m = checkPut(t, "with room behind", s, m, stateRoom[:len(state)], lRoom[:len(l)])
		if !bytes.Equal(stateRoom, append(state, "behind"...)) || !same(lRoom, append(l, y...)) {
			t.Error("Put has changed what was handed in, or what stands behind it")
		}
		clear(stateRoom)
		clear(lRoom)
		checkAll(t, "written over", s, m, nil)

		_, state, l, _ = commit.Recover(s)
		clear(state[:cap(state)])
		clear(l[:cap(l)])
		checkAll(t, "what was answered is written over", s, m, nil)
	}
}

// P2: in two stores to which the same was done all is the same.
func TestSameAgain(t *testing.T) {
	var ends []string
	for range 2 {
		r := rand.New(rand.NewPCG(18, 10))
		s := newStore(t, 20000)
		var m model
		told := ""
		for range 60 {
			check(t, "Arm", s.Arm(r.IntN(12)), api.OK)
			e := commit.Put(s, m.next(), someBytes(r, r.IntN(50)), someChanges(r, r.IntN(9)))
			told += fmt.Sprintln(e, s.On(), s.Ops(), s.List())
			check(t, "Restart", s.Restart([]int{r.IntN(40), r.IntN(40), r.IntN(40)}), api.OK)
			n, state, l, e := commit.Recover(s)
			told += fmt.Sprintln(n, state, len(l), e, s.Ops(), filesOf(t, s))
			m = make(model, n)
		}
		ends = append(ends, told)
	}
	if ends[0] != ends[1] {
		t.Error("the same calls answer otherwise")
	}
}
