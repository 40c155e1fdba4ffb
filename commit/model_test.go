package commit_test

import (
	"bytes"
	"encoding/binary"
	"fmt"
	"hash/crc32"
	"maps"
	"math"
	"math/rand/v2"
	"slices"
	"strings"
	"testing"

	"headrace/api"
	"headrace/commit"
	"headrace/files"
)

const (
	bigRoom = 1 << 20
	most    = api.MaxFiles / 4
	theOne  = 0x7ff8000000000000 // the bits of what is no number
)

var (
	minusZero = math.Copysign(0, -1)
	longest   = strings.Repeat("k", api.MaxKey)
)

// tellings are of all kinds, some of which no values come to.
var tellings = []api.Agg{
	{},
	{Count: 1, Sum: 1.5, Min: 1.5, Max: 1.5},
	{Count: 3, Sum: 6, Min: 1, Max: 3},
	{Count: 2, Sum: math.Inf(1), Over: true, Min: 1e308, Max: 1e308},
	{Count: 2, Sum: math.Inf(-1), Min: math.Inf(-1), Max: 1},
	{Count: 2, Sum: math.NaN(), Min: math.Inf(-1), Max: math.Float64frombits(0xfff0000000000009)},
	{Count: 1, Sum: minusZero, Min: minusZero, Max: minusZero},
	{Count: api.MaxOffset, Sum: math.MaxFloat64, Min: -5e-324, Max: math.MaxFloat64},
}

// someChanges are n changes of all kinds, in no order.
func someChanges(r *rand.Rand, n int) []api.Change {
	keys := []string{"", "a", "ab", "\x00\xff", "é", longest}
	bounds := []int64{0, 1, -1, 10, 63, 64, -65, api.MaxTime, -api.MaxTime, math.MaxInt64, math.MinInt64}
	revs := []uint64{0, 0, 0, 1, 2, 127, 128, 1 << 40}
	var l []api.Change
	for range n {
		l = append(l, api.Change{
			Put: r.IntN(2) == 0,
			Rev: revs[r.IntN(len(revs))],
			P: api.Pane{
				Key: keys[r.IntN(len(keys))],
				W:   api.Window{Start: bounds[r.IntN(len(bounds))], End: bounds[r.IntN(len(bounds))]},
				A:   tellings[r.IntN(len(tellings))],
			},
		})
	}
	return l
}

// someBytes are n bytes.
func someBytes(r *rand.Rand, n int) []byte {
	p := make([]byte, n)
	for i := range p {
		p[i] = byte(r.IntN(256))
	}
	return p
}

// x and y are changes, one each.
var (
	x = []api.Change{{Put: true, P: api.Pane{Key: "x", W: api.Window{Start: 0, End: 10}, A: tellings[1]}}}
	y = []api.Change{{Rev: 1, P: api.Pane{Key: "y", W: api.Window{Start: -20, End: 300}, A: tellings[2]}}}
)

// bitsOf are a number's, and of all that is none the one's.
func bitsOf(x float64) uint64 {
	if x != x {
		return theOne
	}
	return math.Float64bits(x)
}

// pageOf is a page, laid apart from the program.
func pageOf(kind byte, body []byte) []byte {
	p := binary.LittleEndian.AppendUint32(nil, uint32(len(body)))
	p = append(append(p, kind), body...)
	return binary.LittleEndian.AppendUint32(p, crc32.ChecksumIEEE(p))
}

// manOf is the file man of that commit.
func manOf(n uint64) []byte {
	return pageOf('m', binary.AppendUvarint(nil, n))
}

// outOf is the file of changes, laid apart from the program.
func outOf(l []api.Change) []byte {
	p := binary.AppendUvarint(nil, uint64(len(l)))
	for _, c := range l {
		p = append(p, flag(c.Put))
		p = binary.AppendUvarint(p, c.Rev)
		p = append(binary.AppendUvarint(p, uint64(len(c.P.Key))), c.P.Key...)
		p = binary.AppendVarint(binary.AppendVarint(p, c.P.W.Start), c.P.W.End)
		a := c.P.A
		for _, n := range []uint64{a.Count, bitsOf(a.Sum), uint64(flag(a.Over)), bitsOf(a.Min), bitsOf(a.Max)} {
			p = binary.AppendUvarint(p, n)
		}
	}
	return pageOf('l', p)
}

func flag(so bool) byte {
	if so {
		return 1
	}
	return 0
}

// same: are they the same changes, to the bits of their numbers?
func same(a, b []api.Change) bool {
	return len(a) == len(b) && bytes.Equal(outOf(a), outOf(b))
}

func newStore(t testing.TB, room int) *files.Store {
	t.Helper()
	s, e := files.New(room)
	check(t, fmt.Sprintf("files.New(%d)", room), e, api.OK)
	return s
}

func check(t testing.TB, what string, got, want api.Errno) {
	t.Helper()
	if got != want {
		t.Fatalf("%s = %d, not %d", what, got, want)
	}
}

// put makes a file of these bytes, durable, in the place of the one that there is.
func put(t testing.TB, s *files.Store, name string, p []byte) {
	t.Helper()
	if slices.Contains(s.List(), name) {
		check(t, "Delete "+name, s.Delete(name), api.OK)
	}
	check(t, "Append "+name, s.Append(name, p), api.OK)
	check(t, "Sync "+name, s.Sync(name), api.OK)
}

func putAll(t testing.TB, s *files.Store, l map[string]string) {
	t.Helper()
	for _, name := range slices.Sorted(maps.Keys(l)) {
		put(t, s, name, []byte(l[name]))
	}
}

// filesOf are a store's files and their bytes.
func filesOf(t testing.TB, s *files.Store) map[string]string {
	t.Helper()
	l := map[string]string{}
	for _, name := range s.List() {
		p, e := s.Read(name)
		check(t, "Read "+name, e, api.OK)
		l[name] = string(p)
	}
	return l
}

// switchedOff makes the power of a store go off, in which it has no file more.
func switchedOff(t testing.TB, s *files.Store) {
	t.Helper()
	check(t, "Append", s.Append("zz", nil), api.OK)
	check(t, "Arm", s.Arm(1), api.OK)
	check(t, "Sync", s.Sync("zz"), api.ErrCrash)
}

// made is what one Put was told.
type made struct {
	state []byte
	l     []api.Change
}

// model is what a store's commits are to be, written apart from the program: what each Put was told.
type model []made

func (m model) with(state []byte, l []api.Change) model {
	return append(slices.Clone(m), made{slices.Clone(state), slices.Clone(l)})
}

func (m model) next() uint64 {
	return uint64(len(m)) + 1
}

func (m model) state() []byte {
	if len(m) == 0 {
		return nil
	}
	return m[len(m)-1].state
}

func (m model) changes() []api.Change {
	var all []api.Change
	for _, x := range m {
		all = append(all, x.l...)
	}
	return all
}

// files are the files that a store is to have of them.
func (m model) files() map[string]string {
	l := map[string]string{}
	for i, x := range m {
		l[fmt.Sprintf("out.%d", i+1)] = string(outOf(x.l))
	}
	if len(m) > 0 {
		l["man"] = string(manOf(uint64(len(m))))
		l[fmt.Sprintf("state.%d", len(m))] = string(m.state())
	}
	return l
}

// lay makes a store's files of them, without Put.
func (m model) lay(t testing.TB, s *files.Store) {
	t.Helper()
	putAll(t, s, m.files())
}

// someModel is n commits, of states and changes of all lengths.
func someModel(r *rand.Rand, n int) model {
	var m model
	for range n {
		m = m.with(someBytes(r, r.IntN(30)), someChanges(r, r.IntN(4)))
	}
	return m
}

// tells: is it what Recover is to answer?
func (m model) tells(n uint64, state []byte, l []api.Change) bool {
	return n == uint64(len(m)) && bytes.Equal(state, m.state()) && same(l, m.changes())
}

// checkRecover holds Recover against the model.
func checkRecover(t testing.TB, what string, s *files.Store, m model) {
	t.Helper()
	n, state, l, e := commit.Recover(s)
	if e != api.OK || !m.tells(n, state, l) {
		t.Fatalf("%s: Recover = %d, %q, %d changes, error %d; not %d, %q, %d changes", what, n, state, len(l), e, len(m), m.state(), len(m.changes()))
	}
}

// checkError looks that Recover answers this error, beside noughts, and that no file has changed.
func checkError(t testing.TB, what string, s *files.Store, want api.Errno) {
	t.Helper()
	checkUnchanged(t, what, s, func() {
		if n, state, l, e := commit.Recover(s); n != 0 || len(state) != 0 || len(l) != 0 || e != want {
			t.Fatalf("%s: Recover = %d, %q, %d changes, error %d; not error %d beside noughts", what, n, state, len(l), e, want)
		}
	})
}

// checkRefused looks that Put answers this error, and that nothing that the store tells has changed.
func checkRefused(t testing.TB, what string, s *files.Store, n uint64, state []byte, l []api.Change, want api.Errno) {
	t.Helper()
	checkUnchanged(t, what, s, func() { check(t, fmt.Sprintf("%s: Put(%d)", what, n), commit.Put(s, n, state, l), want) })
}

// checkUnchanged looks that a call changes nothing that a store tells, operations neither.
func checkUnchanged(t testing.TB, what string, s *files.Store, call func()) {
	t.Helper()
	if s == nil {
		call()
		return
	}
	on, ops, names := s.On(), s.Ops(), s.List()
	var before map[string]string
	if on {
		before = filesOf(t, s)
	}
	call()
	if s.On() != on || s.Ops() != ops || !slices.Equal(s.List(), names) || on && !maps.Equal(filesOf(t, s), before) {
		t.Fatalf("%s: the store has changed: %q, %d operations; it had %q, %d", what, s.List(), s.Ops(), names, ops)
	}
}

// checkFiles looks that a store has the model's files, and those others alone.
func checkFiles(t testing.TB, what string, s *files.Store, m model, others map[string]string) {
	t.Helper()
	want := m.files()
	maps.Copy(want, others)
	if got := filesOf(t, s); !maps.Equal(got, want) {
		t.Fatalf("%s: the files are %q; not %q", what, got, want)
	}
}

// checkAll holds all that is told of a store against the model, behind a Restart that keeps nothing more, too, and that Recover changes nothing.
func checkAll(t testing.TB, what string, s *files.Store, m model, others map[string]string) {
	t.Helper()
	for range 2 {
		checkFiles(t, what, s, m, others)
		checkUnchanged(t, what, s, func() { checkRecover(t, what, s, m) })
		check(t, "Restart", s.Restart(nil), api.OK)
	}
}

// checkPut puts what is next, which must be done, and answers the model with it.
func checkPut(t testing.TB, what string, s *files.Store, m model, state []byte, l []api.Change) model {
	t.Helper()
	check(t, fmt.Sprintf("%s: Put(%d)", what, m.next()), commit.Put(s, m.next(), state, l), api.OK)
	return m.with(state, l)
}

// others are files that are none of a commit's, however near their names are.
func others() map[string]string {
	l := map[string]string{}
	for i, name := range []string{
		"cat", "cat.tmp", "seg.0.10", "run.0", "1", "0.out", "ma", "mann", "man.", "man.tm", "man.tmp.", "man.tmp1", "man.1", "xman", "xman.tmp",
		"out", "out.", "out..", "out..1", "out.1.", "out.1.2", "out.1x", "out.x1", "out.x", "out.state.1", "out1", "outer.1", "xout.1", "ou.1",
		"state", "state.", "state..", "state..1", "state.1.", "state.1.2", "state.1x", "state.x1", "state.x", "state.man", "state1", "states.1", "xstate.1", "tate.1",
	} {
		l[name] = strings.Repeat("o", i%5)
	}
	return l
}

// leftNames are files that Puts that were cut may have left, of commits that were and of ones that weren't; and such that none has left.
func leftNames() []string {
	l := []string{"man.tmp", "out.0", "state.0", "out.00", "state.00", "out.126", "state.126", "out.250", "state.250",
		"out.18446744073709551615", "state.18446744073709551615", "out.18446744073709551616", "state.18446744073709551616",
		"out." + strings.Repeat("9", api.MaxName-4), "state." + strings.Repeat("9", api.MaxName-6)}
	for i := 1; i <= 6; i++ {
		l = append(l, fmt.Sprintf("out.%d", i), fmt.Sprintf("state.%d", i))
	}
	return l
}

// putLeft makes files that were left, but those of the model, and answers how many.
func putLeft(t testing.TB, s *files.Store, m model) int {
	t.Helper()
	ours, n := m.files(), 0
	for i, name := range leftNames() {
		if _, is := ours[name]; is {
			continue
		}
		// Some of them are as they would be, were they done.
		p := [][]byte{nil, []byte("left"), outOf(x), manOf(uint64(i))}[i%4]
		put(t, s, name, p)
		n++
	}
	return n
}
