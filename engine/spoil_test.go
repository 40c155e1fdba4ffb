package engine_test

import (
	"fmt"
	"maps"
	"math/rand/v2"
	"slices"
	"strings"
	"testing"

	"headrace/api"
	"headrace/column"
	"headrace/engine"
	"headrace/files"
	"headrace/page"
)

// committed is a store with an archive of two segments, the second of which is above the cut, and three commits; its model.
func committed(t *testing.T) (*files.Store, api.Config, *model) {
	t.Helper()
	log := tinyLog(rand.New(rand.NewPCG(198, 1)), 22)
	c := upTo(with(tumbling(6), 9, 0, 1), 10)
	s := newStore(t, smallRoom)
	archive(t, s, log[:16], 1, 10)
	x := opened(t, "Open", s, c)
	m := newModel(t, c, log[:10])
	m.commit()
	for i, e := range log[10:] {
		checkIn(t, "In", x, m, e)
		if i%6 == 5 {
			checkCommit(t, "Commit", x, m)
		}
	}
	if l := s.List(); !slices.Equal(l, []string{"cat", "man", "out.1", "out.2", "out.3", "seg.0.10", "seg.10.16", "state.3"}) {
		t.Fatalf("files %q", l)
	}
	return s, c, m
}

// archived is the same store without the commits, and what is to be there of it.
func archived(t *testing.T) (*files.Store, api.Config, *model) {
	t.Helper()
	s, c, m := committed(t)
	for name := range m.files() {
		check(t, "Delete", s.Delete(name), api.OK)
	}
	m = newModel(t, c, m.archive)
	m.commit()
	return s, c, m
}

// spoil turns bits of a file.
func spoil(t *testing.T, s *files.Store, name string, bits []int) {
	t.Helper()
	for _, bit := range bits {
		check(t, "Spoil", s.Spoil(name, bit), api.OK)
	}
}

// eachTurned goes through each bit of a file, turned alone, and with some of the 31 behind it.
func eachTurned(t *testing.T, s *files.Store, name string, f func(what string, bit int)) {
	t.Helper()
	r := rand.New(rand.NewPCG(198, 2))
	p, e := s.Read(name)
	check(t, "Read", e, api.OK)
	for bit := range 8 * len(p) {
		for i := range 3 {
			bits := []int{bit}
			for b := bit + 1; i > 0 && b < min(bit+32, 8*len(p)); b++ {
				if r.IntN(3) == 0 {
					bits = append(bits, b)
				}
			}
			spoil(t, s, name, bits)
			f(fmt.Sprintf("%s, bits %v turned", name, bits), bit)
			spoil(t, s, name, bits)
		}
	}
}

// P7, P19.1: bits turned in each file of what is committed: it is told, and no file goes; bits turned in the archive's play no part behind a commit.
func TestTurnedBits(t *testing.T) {
	s, c, m := committed(t)
	for _, name := range s.List() {
		if name == "cat" || strings.HasPrefix(name, "seg.") {
			eachTurned(t, s, name, func(what string, bit int) {
				if bit%50 == 0 {
					checkEngine(t, what, opened(t, what, s, c), m)
				}
			})
			continue
		}
		eachTurned(t, s, name, func(what string, bit int) {
			x, e := engine.Open(s, c, plan)
			if x != nil || e != api.ErrSum && (e != api.ErrForm || bit >= 32) {
				t.Fatalf("%s: Open = %v, error %d", what, x, e)
			}
			if bit%50 == 0 {
				checkUnchanged(t, what, s, func() { checkNotOpened(t, what, s, c, plan, e) })
			}
		})
	}
	checkEngine(t, "turned back", opened(t, "turned back", s, c), m)
	checkFiles(t, "turned back", s, m)
}

// P7, P19.1: bits turned in the archive, ahead of the first commit: it is told, where it is below the cut, and nothing is committed of it; else what is opened is right.
func TestTurnedBitsOfArchive(t *testing.T) {
	s, c, m := archived(t)
	for _, name := range s.List() {
		eachTurned(t, s, name, func(what string, bit int) {
			if name == "seg.10.16" {
				if bit%20 == 0 {
					checkEngine(t, what, opened(t, what, copied(t, s, smallRoom), c), m)
				}
				return
			}
			before := filesOf(t, s)
			x, e := engine.Open(s, c, plan)
			if x != nil || e != api.ErrSum && e != api.ErrForm || !maps.Equal(filesOf(t, s), before) {
				t.Fatalf("%s: Open = %v, error %d, files %q", what, x, e, s.List())
			}
		})
	}
	checkEngine(t, "turned back", opened(t, "turned back", s, c), m)
	checkFiles(t, "turned back", s, m)
}

// P7: bits that are turned while an engine is open: what it commits is right, and what is spoilt of the commits ahead is told by Open; the state ahead, which goes, plays no part.
func TestTurnedBehindOpen(t *testing.T) {
	for _, name := range []string{"cat", "man", "out.1", "out.2", "out.3", "seg.0.10", "state.3"} {
		s, c, m := committed(t)
		x := opened(t, name, s, c)
		spoil(t, s, name, []int{60, 62})
		checkIn(t, name, x, m, api.Event{Offset: 500, Time: 3, Key: "k"})
		if name == "man" {
			check(t, name, x.Commit(), api.ErrSum)
			checkEngine(t, name, x, m)
			spoil(t, s, name, []int{60, 62})
		}
		checkCommit(t, name, x, m)
		checkEngine(t, name, x, m)
		if strings.HasPrefix(name, "out.") {
			checkNotOpened(t, name, s, c, plan, api.ErrSum)
			spoil(t, s, name, []int{60, 62})
		}
		checkEngine(t, name, opened(t, name, s, c), m)
	}
}

// P19.1: each file of what is committed is missing, cut, or another one's: no engine, but where man isn't there: then there is no commit.
func TestOtherFiles(t *testing.T) {
	_, _, m := committed(t)
	for _, name := range slices.Sorted(maps.Keys(m.files())) {
		p := m.files()[name]
		for i, other := range []string{"", p[:len(p)-1], p + "\x00", p[1:], string(page.Lay(nil, 'x', column.Uint(nil, 3)))} {
			s, c, _ := committed(t)
			put(t, s, name, []byte(other))
			what := fmt.Sprintf("%s, %d", name, i)
			checkUnchanged(t, what, s, func() {
				x, e := engine.Open(s, c, plan)
				if x != nil || e != api.ErrForm && e != api.ErrSum {
					t.Fatalf("%s: Open = %v, error %d", what, x, e)
				}
			})
		}
		s, c, _ := committed(t)
		check(t, "Delete", s.Delete(name), api.OK)
		if name != "man" {
			checkUnchanged(t, name, s, func() { checkNotOpened(t, name, s, c, plan, api.ErrForm) })
			continue
		}
		m := newModel(t, c, m.archive)
		m.commit()
		checkEngine(t, name, opened(t, name, s, c), m)
		checkFiles(t, name, s, m)
	}
}

// P1: bytes of all kinds in the files that Open reads: it opens, or tells an error; what is opened takes events, ends, and commits what may be opened again.
func FuzzOpen(f *testing.F) {
	state := []byte{0, 20, 0, 0, 0, 2, 0, 1, 0, 0, 0, 0, 0}
	f.Add([]byte{1}, state, []byte{0}, []byte{}, byte(0))
	f.Add([]byte{2}, state, []byte{0}, []byte{0}, byte(1))
	f.Add([]byte{}, []byte{}, []byte{}, []byte{1, 0}, byte(2))
	f.Add([]byte{}, []byte{}, []byte{}, []byte{1, 1, 0, 5, 0, 10}, byte(3))
	f.Fuzz(func(t *testing.T, man, state, out, cat []byte, kind byte) {
		s := newStore(t, api.MaxStore)
		for name, p := range map[string][]byte{
			"man": page.Lay(nil, 'm', man), "state.1": page.Lay(nil, 'o', state), "state.2": page.Lay(nil, 'o', state),
			"out.1": page.Lay(nil, 'l', out), "out.2": page.Lay(nil, 'l', nil), "cat": page.Lay(nil, 'c', cat), "seg.0.5": out,
		} {
			if len(p) > 9 {
				put(t, s, name, p)
			}
		}
		c := []api.Config{tumbling(10), sliding(10, 4), session(5), upTo(tumbling(10), 5)}[kind%4]
		x, e := engine.Open(s, c, plan)
		if (x == nil) == (e == api.OK) {
			t.Fatalf("Open = %v, error %d", x, e)
		}
		if x == nil {
			return
		}
		for i := range 30 {
			x.In(api.Event{Offset: uint64(i), Time: int64(i * 7 % 60), Key: string(out[:min(len(out), i%3)])})
			x.Operator().Open()
		}
		n := x.Commits()
		x.End()
		if e := x.Commit(); e == api.OK {
			if x = opened(t, "Open", s, c); x.Commits() != n+1 {
				t.Fatalf("%d commits", x.Commits())
			}
		}
	})
}
