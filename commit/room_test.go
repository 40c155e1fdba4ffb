package commit_test

import (
	"bytes"
	"fmt"
	"math/rand/v2"
	"testing"

	"headrace/api"
	"headrace/commit"
	"headrace/files"
)

// laidOf is how many bytes the files have that a Put of these lays.
func laidOf(n uint64, state []byte, l []api.Change) int {
	return len(state) + len(outOf(l)) + len(manOf(n))
}

// within is a store of a model and of others' files, with so much room beside them.
func within(t *testing.T, m model, room int) *files.Store {
	t.Helper()
	sizes := newStore(t, bigRoom)
	m.lay(t, sizes)
	putAll(t, sizes, others())
	s := newStore(t, sizes.Used()+room)
	m.lay(t, s)
	putAll(t, s, others())
	return s
}

// checkFull looks that a Put answers ErrFull, and that nothing of it has stayed.
func checkFull(t *testing.T, what string, s *files.Store, m model, state []byte, l []api.Change, others map[string]string) {
	t.Helper()
	check(t, what, commit.Put(s, m.next(), state, l), api.ErrFull)
	checkAll(t, what, s, m, others)
}

// P18.2: each number of bytes of room: with too few for the state, for the changes, for the file man it is ErrFull, and nothing has changed; the same commit is done once there is room.
func TestEachRoom(t *testing.T) {
	r := rand.New(rand.NewPCG(18, 40))
	for _, commits := range []int{0, 1, 3} {
		m := someModel(r, commits)
		for _, what := range []made{{nil, nil}, {[]byte("a"), nil}, {[]byte("a longer state"), append(x, y...)}, {nil, someChanges(r, 4)}} {
			need := laidOf(m.next(), what.state, what.l)
			for room := range need + 2 {
				s := within(t, m, room)
				name := fmt.Sprintf("%d commits, %d bytes of room, %d needed", commits, room, need)
				if room >= need {
					checkAll(t, name, s, checkPut(t, name, s, m, what.state, what.l), others())
					continue
				}
				for range 2 {
					checkFull(t, name, s, m, what.state, what.l, others())
				}
				// The room that an other file had is enough.
				s = within(t, m, need)
				put(t, s, "big", make([]byte, need-room))
				with := others()
				with["big"] = string(make([]byte, need-room))
				checkFull(t, name, s, m, what.state, what.l, with)
				check(t, "Delete", s.Delete("big"), api.OK)
				checkAll(t, name, s, checkPut(t, name, s, m, what.state, what.l), others())
			}
		}
	}
}

// P18.1: what was left takes no room.
func TestRoomOfWhatWasLeft(t *testing.T) {
	for _, commits := range []int{0, 2} {
		m := someModel(rand.New(rand.NewPCG(18, 41)), commits)
		for _, name := range []string{"man.tmp", "state.3", "out.3", "state.77", "out.4"} {
			need := laidOf(m.next(), []byte("state"), x)
			s := within(t, m, need)
			put(t, s, name, make([]byte, need))
			m := checkPut(t, name, s, m, []byte("state"), x)
			checkAll(t, name, s, m, others())

			s = within(t, m[:commits], need-1)
			put(t, s, name, make([]byte, need-1))
			checkFull(t, name, s, m[:commits], []byte("state"), x, others())
		}
	}
}

// P18.2: a state that no store has room for.
func TestTooLongState(t *testing.T) {
	s := newStore(t, api.MaxStore)
	m := someModel(rand.New(rand.NewPCG(18, 42)), 2)
	m.lay(t, s)
	checkFull(t, "MaxStore", s, m, make([]byte, api.MaxStore), x, nil)
	checkFull(t, "above MaxStore", s, m, make([]byte, 2*api.MaxStore), x, nil)
}

// P18.2: as many files as there may be, but for some: a Put takes three more than there are, the first one of which is called man, where there was none.
func TestEachNumberOfFiles(t *testing.T) {
	for _, commits := range []int{0, 1, 3} {
		m := someModel(rand.New(rand.NewPCG(18, 43)), commits)
		for left := range 6 {
			s := newStore(t, bigRoom)
			m.lay(t, s)
			with := map[string]string{}
			for i := range api.MaxFiles - left - len(m.files()) {
				with[fmt.Sprintf("f%d", i)] = ""
			}
			putAll(t, s, with)
			what := fmt.Sprintf("%d commits, %d files more", commits, left)
			if left >= 3 {
				checkAll(t, what, s, checkPut(t, what, s, m, []byte("a"), x), with)
				continue
			}
			checkFull(t, what, s, m, []byte("a"), x, with)
			for i := range 3 - left {
				name := fmt.Sprintf("f%d", i)
				check(t, "Delete", s.Delete(name), api.OK)
				delete(with, name)
			}
			checkAll(t, what, s, checkPut(t, what, s, m, []byte("a"), x), with)
		}
	}
}

// P18.2: without room, and with power that goes off in each operation, also in what is cleaned up then.
func TestFallsWithoutRoom(t *testing.T) {
	m := someModel(rand.New(rand.NewPCG(18, 44)), 2)
	state := []byte("state")
	need := laidOf(3, state, x)
	told := map[api.Errno]int{}
	for room := range need {
		for _, left := range []bool{false, true} {
			for n := 1; ; n++ {
				s := within(t, m, room)
				if left {
					put(t, s, "man.tmp", bytes.Repeat([]byte("l"), min(room, 3)))
					put(t, s, "out.3", nil)
				}
				check(t, "Arm", s.Arm(n), api.OK)
				e := commit.Put(s, 3, state, x)
				told[e]++
				what := fmt.Sprintf("%d bytes of room, off in operation %d", room, n)
				if e == api.ErrFull && s.On() {
					checkAll(t, what, s, m, others())
					break
				}
				check(t, what, e, api.ErrCrash)
				check(t, "Restart", s.Restart([]int{-1}), api.OK)
				checkRecover(t, what, s, m)
				checkFull(t, what, s, m, state, x, others())
			}
		}
	}
	if told[api.ErrFull] != 2*need || told[api.ErrCrash] < 6*need {
		t.Errorf("told: %v", told)
	}
}
