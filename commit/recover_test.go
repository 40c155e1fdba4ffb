package commit_test

import (
	"fmt"
	"math/rand/v2"
	"testing"

	"headrace/api"
	"headrace/commit"
)

// P18.1: a store without a commit: 0, and nothing, and no operation.
func TestRecoverOfNothing(t *testing.T) {
	for _, room := range []int{1, bigRoom, api.MaxStore} {
		s := newStore(t, room)
		checkAll(t, "no files", s, nil, nil)
		if s.Ops() != 0 {
			t.Errorf("Recover of no files took %d operations", s.Ops())
		}
	}
	s := newStore(t, bigRoom)
	putAll(t, s, others())
	checkAll(t, "others' files", s, nil, others())
}

// P18.1: files as the chapter lays them out, whatever states and changes there are.
func TestRecoverReadsFiles(t *testing.T) {
	r := rand.New(rand.NewPCG(18, 20))
	for _, n := range []int{0, 1, 2, 3, 10, 124, most} {
		s := newStore(t, bigRoom)
		m := someModel(r, n)
		m.lay(t, s)
		putAll(t, s, others())
		checkAll(t, fmt.Sprintf("%d commits", n), s, m, others())
	}
}

// P18.1: files that were left go in Recover, those of commits that were, of ones that weren't, and man.tmp; all others stay.
func TestLeftGoInRecover(t *testing.T) {
	for n := range 5 {
		s := newStore(t, bigRoom)
		m := someModel(rand.New(rand.NewPCG(18, 21)), n)
		m.lay(t, s)
		putAll(t, s, others())
		left, ops := putLeft(t, s, m), s.Ops()
		checkRecover(t, "with left", s, m)
		if s.Ops() != ops+left {
			t.Errorf("%d operations for %d files", s.Ops()-ops, left)
		}
		checkAll(t, "with left", s, m, others())
	}
}

// P18.1: they go in Put, too, whatever they are called and have; so does the state ahead.
func TestLeftGoInPut(t *testing.T) {
	for n := range 5 {
		s := newStore(t, bigRoom)
		m := someModel(rand.New(rand.NewPCG(18, 22)), n)
		m.lay(t, s)
		putAll(t, s, others())
		putLeft(t, s, m)
		m = checkPut(t, "with left", s, m, []byte("a"), x)
		checkAll(t, "with left", s, m, others())
	}
}

// P18.1: each of them alone, in both calls.
func TestEachLeft(t *testing.T) {
	for n := range 4 {
		m := someModel(rand.New(rand.NewPCG(18, 23)), n)
		for _, name := range leftNames() {
			if _, is := m.files()[name]; is {
				continue
			}
			s := newStore(t, bigRoom)
			m.lay(t, s)
			put(t, s, name, []byte("left"))
			checkRecover(t, name, s, m)
			checkAll(t, name, s, m, nil)
			put(t, s, name, []byte("left"))
			checkAll(t, name, s, checkPut(t, name, s, m, []byte("a"), x), nil)
		}
	}
}

// P18.1, P18.2: beside an error they stay, as all does.
func TestLeftStayBesideErrors(t *testing.T) {
	for n := 1; n < 5; n++ {
		for name := range someModel(rand.New(rand.NewPCG(18, 24)), n).files() {
			s := newStore(t, bigRoom)
			m := someModel(rand.New(rand.NewPCG(18, 24)), n)
			m.lay(t, s)
			putLeft(t, s, m)
			if name == "man" {
				put(t, s, name, []byte("no page of any kind"))
			} else {
				check(t, "Delete", s.Delete(name), api.OK)
			}
			checkError(t, name, s, api.ErrForm)
			if name == "man" {
				checkRefused(t, name, s, m.next(), nil, nil, api.ErrForm)
			}
		}
	}
}

// P18.1: a commit is put behind the last one that the file man tells, whatever the others' files are.
func TestPutLooksAtManAlone(t *testing.T) {
	for _, name := range []string{"state.3", "out.1", "out.2", "out.3"} {
		s := newStore(t, bigRoom)
		m := someModel(rand.New(rand.NewPCG(18, 25)), 3)
		m.lay(t, s)
		check(t, "Delete", s.Delete(name), api.OK)
		check(t, "Put", commit.Put(s, 4, []byte("a"), x), api.OK)
		if name == "state.3" {
			checkAll(t, name, s, m.with([]byte("a"), x), nil)
			continue
		}
		checkError(t, name, s, api.ErrForm)
	}
}
