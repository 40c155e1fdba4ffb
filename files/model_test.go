package files_test

import (
	"bytes"
	"fmt"
	"maps"
	"math/rand/v2"
	"slices"
	"strings"
	"testing"

	"headrace/api"
	"headrace/files"
)

// model is a store as the chapter tells it, written apart from the program: of
// each file what is durable, and what isn't.
type model struct {
	room, armed, ops int
	off              bool
	files            map[string]content
}

type content struct{ sure, loose string }

func (c content) all() string { return c.sure + c.loose }

func (m *model) list() []string {
	return slices.Sorted(maps.Keys(m.files))
}

func (m *model) used() int {
	n := 0
	for _, c := range m.files {
		n += len(c.all())
	}
	return n
}

func isName(name string) bool {
	return len(name) > 0 && len(name) <= 32 && strings.Trim(name, "0123456789abcdefghijklmnopqrstuvwxyz.") == ""
}

// refused is the error of a call on a file that must be there.
func (m *model) refused(name string) api.Errno {
	_, there := m.files[name]
	switch {
	case !isName(name):
		return api.ErrArg
	case m.off:
		return api.ErrCrash
	case !there:
		return api.ErrNone
	}
	return api.OK
}

// falls counts an operation.
func (m *model) falls() bool {
	m.ops++
	m.off = m.armed == 1
	m.armed = max(m.armed-1, 0)
	return m.off
}

func (m *model) append(name, p string) api.Errno {
	e := m.refused(name)
	if e == api.ErrArg || e == api.ErrCrash {
		return e
	}
	if m.used()+len(p) > m.room || e == api.ErrNone && len(m.files) == 500 {
		return api.ErrFull
	}
	c := m.files[name]
	c.loose += p
	m.files[name] = c
	if m.falls() {
		return api.ErrCrash
	}
	return api.OK
}

// change is Sync, Delete and Rename: a file goes, and comes again as f says.
func (m *model) change(name string, f func(c content)) api.Errno {
	if e := m.refused(name); e != api.OK {
		return e
	}
	if m.falls() {
		return api.ErrCrash
	}
	c := m.files[name]
	delete(m.files, name)
	f(c)
	return api.OK
}

func (m *model) sync(name string) api.Errno {
	return m.change(name, func(c content) { m.files[name] = content{sure: c.all()} })
}

func (m *model) delete(name string) api.Errno {
	return m.change(name, func(c content) {})
}

func (m *model) rename(from, to string) api.Errno {
	if !isName(to) {
		return api.ErrArg
	}
	return m.change(from, func(c content) { m.files[to] = c })
}

func (m *model) restart(keep []int) api.Errno {
	m.off, m.armed = false, 0
	for i, name := range m.list() {
		c := m.files[name]
		n := 0
		if i < len(keep) {
			n = keep[i]
		}
		if n < 0 || n > len(c.loose) {
			n = len(c.loose)
		}
		m.files[name] = content{sure: c.sure + c.loose[:n]}
	}
	return api.OK
}

func (m *model) spoil(name string, bit int) api.Errno {
	c, there := m.files[name]
	switch {
	case !there:
		return api.ErrNone
	case bit < 0 || bit >= 8*len(c.all()):
		return api.ErrArg
	}
	p := []byte(c.all())
	p[bit/8] ^= 1 << (bit % 8)
	m.files[name] = content{string(p[:len(c.sure)]), string(p[len(c.sure):])}
	return api.OK
}

// step is a call that a store and its model are told alike.
type step struct {
	what      string
	got, want api.Errno
}

var someNames = []string{"a", "b", "c", "a.b", "0", "z", "", "B", "a/b"}

func anyStep(r *rand.Rand, s *files.Store, m *model) step {
	name, other := someNames[r.IntN(len(someNames))], someNames[r.IntN(len(someNames))]
	switch r.IntN(16) {
	case 0, 1, 2, 3:
		p := fmt.Sprint(r.IntN(1 << (4 * r.IntN(8))))
		return step{"Append " + name + " " + p, s.Append(name, []byte(p)), m.append(name, p)}
	case 4, 5, 6:
		return step{"Sync " + name, s.Sync(name), m.sync(name)}
	case 7, 8:
		return step{"Delete " + name, s.Delete(name), m.delete(name)}
	case 9, 10, 11:
		return step{"Rename " + name + " " + other, s.Rename(name, other), m.rename(name, other)}
	case 12:
		n := r.IntN(8) - 1
		if n >= 0 {
			m.armed = n
		}
		return step{fmt.Sprint("Arm ", n), s.Arm(n), []api.Errno{api.ErrArg, api.OK}[min(n+1, 1)]}
	case 13, 14:
		keep := make([]int, r.IntN(6))
		for i := range keep {
			keep[i] = r.IntN(8) - 2
		}
		return step{fmt.Sprint("Restart ", keep), s.Restart(keep), m.restart(keep)}
	}
	bit := r.IntN(60) - 3
	return step{fmt.Sprint("Spoil ", name, " ", bit), s.Spoil(name, bit), m.spoil(name, bit)}
}

// checkAlike holds all that a store tells against its model.
func checkAlike(t *testing.T, s *files.Store, m *model) {
	t.Helper()
	if s.On() == m.off || s.Ops() != m.ops || s.Used() != m.used() || !slices.Equal(s.List(), m.list()) {
		t.Errorf("%v, %d, %d, %q; not %v, %d, %d, %q", s.On(), s.Ops(), s.Used(), s.List(), !m.off, m.ops, m.used(), m.list())
	}
	for _, name := range someNames {
		e := m.refused(name)
		want := ""
		if e == api.OK {
			want = m.files[name].all()
		}
		if p, e2 := s.Read(name); !bytes.Equal(p, []byte(want)) || e2 != e {
			t.Errorf("Read(%q) = %q, %d; not %q, %d", name, p, e2, want, e)
		}
	}
}

// P5.1, P5.2, P5.3, P2: whatever is done, a store tells what the chapter says.
func TestAnySteps(t *testing.T) {
	for seed := range uint64(400) {
		r := rand.New(rand.NewPCG(seed, 5))
		room := 1 + r.IntN(40)
		s := newStore(t, room)
		m := &model{room: room, files: map[string]content{}}
		var script []string
		for range 150 {
			x := anyStep(r, s, m)
			script = append(script, x.what)
			check(t, x.what, x.got, x.want)
			checkAlike(t, s, m)
			if t.Failed() {
				t.Fatalf("room %d: %s", room, strings.Join(script, "; "))
			}
		}
	}
}
