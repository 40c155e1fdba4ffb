package commit_test

import (
	"bytes"
	"encoding/binary"
	"fmt"
	"hash/crc32"
	"maps"
	"math/rand/v2"
	"slices"
	"strings"
	"testing"

	"headrace/api"
	"headrace/commit"
	"headrace/files"
	"headrace/ledger"
)

// bodyOf is the body of bytes that are one page of a kind, read apart from the program.
func bodyOf(p string, kind byte) (string, api.Errno) {
	if len(p) < 9 {
		return "", api.ErrForm
	}
	size := uint64(binary.LittleEndian.Uint32([]byte(p)))
	if size > api.MaxPage || size > uint64(len(p)-9) {
		return "", api.ErrForm
	}
	if crc32.ChecksumIEEE([]byte(p[:5+size])) != binary.LittleEndian.Uint32([]byte(p[5+size:])) {
		return "", api.ErrSum
	}
	if p[4] != kind || uint64(len(p)) != size+9 {
		return "", api.ErrForm
	}
	return p[5 : 5+size], api.OK
}

// lastOf is the number that a file man tells, read apart from the program.
func lastOf(l map[string]string) (uint64, api.Errno) {
	p, there := l["man"]
	if !there {
		return 0, api.OK
	}
	body, e := bodyOf(p, 'm')
	if e != api.OK {
		return 0, e
	}
	// One byte is enough for all of them.
	if len(body) != 1 || body[0] < 1 || body[0] > most {
		return 0, api.ErrForm
	}
	return uint64(body[0]), api.OK
}

// answerOf is what Recover is to answer of these files.
func answerOf(l map[string]string) (uint64, string, []api.Change, api.Errno) {
	n, e := lastOf(l)
	if n == 0 {
		return 0, "", nil, e
	}
	state, there := l[fmt.Sprintf("state.%d", n)]
	sums, whole := false, there
	var all []api.Change
	for i := uint64(1); i <= n; i++ {
		p, there := l[fmt.Sprintf("out.%d", i)]
		_, e := bodyOf(p, 'l')
		sums = sums || e == api.ErrSum
		more, e := ledger.Read([]byte(p))
		whole = whole && there && e == api.OK
		all = append(all, more...)
	}
	switch {
	case sums:
		return 0, "", nil, api.ErrSum
	case !whole:
		return 0, "", nil, api.ErrForm
	}
	return n, state, all, api.OK
}

// checkAnswer holds Recover of a store against answerOf, and what Put answers of a spoilt man, and that beside an error no file has changed.
func checkAnswer(t testing.TB, what string, s *files.Store) api.Errno {
	t.Helper()
	before := filesOf(t, s)
	n, state, l, e := answerOf(before)
	if _, e := lastOf(before); e != api.OK {
		for i := uint64(1); i < 4; i++ {
			checkRefused(t, what, s, i, []byte("a"), x, e)
		}
	}
	if e != api.OK {
		checkError(t, what, s, e)
		return e
	}
	for range 2 {
		gotN, gotState, got, e := commit.Recover(s)
		if gotN != n || string(gotState) != state || !same(got, l) || e != api.OK {
			t.Fatalf("%s: Recover = %d, %q, %d changes, error %d; not %d, %q, %d changes", what, gotN, gotState, len(got), e, n, state, len(l))
		}
	}
	return api.OK
}

// threeCommits is a store of three commits, and files that were left.
func threeCommits(t testing.TB) (*files.Store, model) {
	t.Helper()
	r := rand.New(rand.NewPCG(18, 30))
	s := newStore(t, bigRoom)
	m := model(nil).with([]byte("a"), someChanges(r, 2)).with(nil, nil).with([]byte("state"), x)
	m.lay(t, s)
	put(t, s, "man.tmp", manOf(4))
	put(t, s, "state.4", []byte("left"))
	return s, m
}

// each goes through each file of three commits.
func each(t *testing.T, f func(s *files.Store, name string, p []byte)) {
	t.Helper()
	_, m := threeCommits(t)
	for _, name := range slices.Sorted(maps.Keys(m.files())) {
		s, _ := threeCommits(t)
		f(s, name, []byte(m.files()[name]))
	}
}

// isPage: is it a file that is a page?
func isPage(name string) bool {
	return !strings.HasPrefix(name, "state.")
}

// P18.1: each file that a commit needs isn't there: ErrForm; without man there is no commit, and all goes.
func TestMissing(t *testing.T) {
	each(t, func(s *files.Store, name string, p []byte) {
		check(t, "Delete", s.Delete(name), api.OK)
		if name == "man" {
			checkRecover(t, name, s, nil)
			checkAll(t, name, s, nil, nil)
			return
		}
		check(t, name, checkAnswer(t, name+" isn't there", s), api.ErrForm)
	})
}

// P18.1: each file cut at each place. Of a page it is told; a state is whatever bytes there are.
func TestCut(t *testing.T) {
	each(t, func(s *files.Store, name string, p []byte) {
		for n := range p {
			put(t, s, name, p[:n])
			want := api.OK
			if isPage(name) {
				want = api.ErrForm
			}
			check(t, name, checkAnswer(t, fmt.Sprintf("%s of %d bytes", name, n), s), want)
		}
	})
}

// P18.1: each file with bytes more, at its end and at its beginning.
func TestLengthened(t *testing.T) {
	each(t, func(s *files.Store, name string, p []byte) {
		for _, more := range [][]byte{{0}, {1}, {0xff}, make([]byte, 8), make([]byte, 9), make([]byte, 100), manOf(3), outOf(nil), outOf(x), p} {
			put(t, s, name, slices.Concat(p, more))
			e := checkAnswer(t, name+" lengthened", s)
			if isPage(name) && len(more) > 0 {
				check(t, name+" lengthened", e, api.ErrForm)
			}
			put(t, s, name, slices.Concat(more, p))
			if e := checkAnswer(t, name+" begins otherwise", s); isPage(name) && e == api.OK {
				t.Errorf("%s begins otherwise: no error", name)
			}
		}
	})
}

// P18.1, P7: each bit of a page turned, and bits within 32: ErrSum, but of how many bytes it has.
func TestTurned(t *testing.T) {
	r := rand.New(rand.NewPCG(18, 31))
	each(t, func(s *files.Store, name string, p []byte) {
		for bit := range 8 * len(p) {
			for range 4 {
				bits := []int{bit}
				for i := bit + 1; i < min(bit+32, 8*len(p)); i++ {
					if r.IntN(3) == 0 && len(bits) < 31 {
						bits = append(bits, i)
					}
				}
				if r.IntN(3) == 0 {
					bits = bits[:1]
				}
				spoil(t, s, name, bits)
				e := checkAnswer(t, fmt.Sprintf("%s, bits %v turned", name, bits), s)
				if isPage(name) && bit >= 32 {
					check(t, fmt.Sprintf("%s, bits %v turned", name, bits), e, api.ErrSum)
				}
				if isPage(name) && e == api.OK {
					t.Errorf("%s, bits %v turned: no error", name, bits)
				}
				// Recover has taken what was left, if it answered OK; bits turned twice are as they were.
				spoil(t, s, name, bits)
			}
		}
		check(t, name, checkAnswer(t, "as it was", s), api.OK)
	})
}

func spoil(t *testing.T, s *files.Store, name string, bits []int) {
	t.Helper()
	for _, bit := range bits {
		check(t, "Spoil", s.Spoil(name, bit), api.OK)
	}
}

// P18.1: bits turned in many places, also behind 32, are told or aren't, as the pages' sums are.
func TestTurnedAnywhere(t *testing.T) {
	r := rand.New(rand.NewPCG(18, 32))
	each(t, func(s *files.Store, name string, p []byte) {
		if len(p) == 0 {
			return
		}
		for range 500 {
			spoil(t, s, name, []int{r.IntN(8 * len(p))})
			checkAnswer(t, name, s)
		}
	})
}

// P18.1: each page of another kind, and with another body.
func TestOtherPages(t *testing.T) {
	each(t, func(s *files.Store, name string, p []byte) {
		if !isPage(name) {
			return
		}
		body, kind := p[5:len(p)-4], p[4]
		for k := range 256 {
			put(t, s, name, pageOf(byte(k), body))
			want := api.ErrForm
			if byte(k) == kind {
				want = api.OK
			}
			check(t, name, checkAnswer(t, fmt.Sprintf("%s of the kind %d", name, k), s), want)
		}
		for _, other := range [][]byte{nil, append(slices.Clone(body), 0), body[:len(body)-1], append([]byte{0x80}, body...), {0x83, 0}, bytes.Repeat([]byte{0xff}, 10)} {
			put(t, s, name, pageOf(kind, other))
			check(t, name, checkAnswer(t, fmt.Sprintf("%s with the body %x", name, other), s), api.ErrForm)
		}
	})
}

// P18.1: a file man that tells another number: of a commit whose files aren't there, or of none at all.
func TestManOfAnotherNumber(t *testing.T) {
	for _, n := range []uint64{0, 1, 2, 4, 5, 124, most, most + 1, 127, 128, 250, 1 << 32, 1<<64 - 1} {
		s, _ := threeCommits(t)
		put(t, s, "man", manOf(n))
		check(t, fmt.Sprintf("man of %d", n), checkAnswer(t, fmt.Sprintf("man of %d", n), s), api.ErrForm)
	}
	// What was left of a commit that wasn't is one, if man tells it.
	s, m := threeCommits(t)
	put(t, s, "man", manOf(4))
	put(t, s, "out.4", outOf(y))
	checkRecover(t, "man of 4", s, m.with([]byte("left"), y))
	checkAll(t, "man of 4", s, m.with([]byte("left"), y), nil)
}

// P18.1: of several files' faults ErrSum goes ahead of ErrForm, whichever file it is of; man's goes ahead of both.
func TestSeveralFaults(t *testing.T) {
	faults := map[string]func(s *files.Store, name string){
		"whole": func(s *files.Store, name string) {},
		"isn't": func(s *files.Store, name string) { check(t, "Delete", s.Delete(name), api.OK) },
		"empty": func(s *files.Store, name string) { put(t, s, name, nil) },
		"other": func(s *files.Store, name string) { put(t, s, name, manOf(2)) },
		"sum":   func(s *files.Store, name string) { put(t, s, name, append(outOf(x)[:20], make([]byte, 100)...)) },
	}
	told := map[api.Errno]int{}
	for first, one := range faults {
		for second, two := range faults {
			for third, three := range faults {
				for fourth, four := range faults {
					s, _ := threeCommits(t)
					one(s, "state.3")
					two(s, "out.1")
					three(s, "out.2")
					four(s, "out.3")
					told[checkAnswer(t, fmt.Sprint(first, second, third, fourth), s)]++
					put(t, s, "man", append(outOf(x)[:20], make([]byte, 100)...))
					check(t, "and man", checkAnswer(t, fmt.Sprint("man", first, second, third, fourth), s), api.ErrSum)
					put(t, s, "man", nil)
					check(t, "and man", checkAnswer(t, fmt.Sprint("man", first, second, third, fourth), s), api.ErrForm)
				}
			}
		}
	}
	if told[api.OK] != 4 || told[api.ErrSum] != 5*(125-64) || told[api.ErrForm] != 625-4-5*(125-64) {
		t.Errorf("told: %v", told)
	}
}

// P18.1, P7: what is laid as several pages is spoilt: in each page, between them, behind them.
func TestManyChangesSpoilt(t *testing.T) {
	l := longChanges(t, api.MaxPage+100)
	s := newStore(t, api.MaxStore)
	m := checkPut(t, "many", s, nil, []byte("a"), l)
	p, e := s.Read("out.1")
	check(t, "Read", e, api.OK)
	first := 9 + int(binary.LittleEndian.Uint32(p))
	for _, at := range []int{4, 5, 1000, first - 1, first + 4, first + 5, first + 1000, len(p) - 1} {
		spoil(t, s, "out.1", []int{8*at + 3})
		checkError(t, fmt.Sprintf("a bit of byte %d", at), s, api.ErrSum)
		spoil(t, s, "out.1", []int{8*at + 3})
	}
	for what, other := range map[string][]byte{
		"the first page":        p[:first],
		"the second page":       p[first:],
		"cut":                   p[:len(p)-1],
		"cut in its head":       p[:first+5],
		"lengthened":            append(slices.Clone(p), 0),
		"a page more":           append(slices.Clone(p), outOf(x)...),
		"a page of none more":   append(slices.Clone(p), outOf(nil)...),
		"a page of none ahead":  append(outOf(nil), p...),
		"of another kind":       append(slices.Clone(p[:first]), pageOf('m', p[first+5:len(p)-4])...),
		"other halves":          append(outOf(l[:len(l)/2-1]), outOf(l[len(l)/2-1:])...),
		"as one, which is long": outOf(l),
	} {
		put(t, s, "out.1", other)
		// A page alone is whole, and all that its file could be made of.
		if what == "the first page" {
			checkRecover(t, what, s, model(nil).with([]byte("a"), l[:len(l)/2]))
			continue
		}
		if what == "the second page" {
			checkRecover(t, what, s, model(nil).with([]byte("a"), l[len(l)/2:]))
			continue
		}
		checkError(t, what, s, api.ErrForm)
	}
	put(t, s, "out.1", p)
	checkRecover(t, "as it was", s, m)
}

// P1: bytes of all kinds in the files that a commit needs are read, or refused, and a commit is put behind what is read.
func FuzzRecover(f *testing.F) {
	f.Add([]byte{1}, []byte("state"), []byte{0}, []byte{0}, false)
	f.Add([]byte{2}, []byte{}, []byte{0}, []byte{0}, false)
	f.Add([]byte{2}, []byte{}, outOf(x)[5:40], outOf(y)[5:40], false)
	f.Add([]byte{0}, []byte{}, []byte{}, []byte{1}, true)
	f.Add(manOf(1), []byte{}, outOf(x), outOf(y), true)
	f.Fuzz(func(t *testing.T, man, state, out1, out2 []byte, raw bool) {
		s := newStore(t, api.MaxStore)
		m, o1, o2 := man, out1, out2
		if !raw {
			m, o1, o2 = pageOf('m', man), pageOf('l', out1), pageOf('l', out2)
		}
		putAll(t, s, map[string]string{"man": string(m), "state.1": string(state), "state.2": string(state), "out.1": string(o1), "out.2": string(o2)})
		if checkAnswer(t, "any bytes", s) != api.OK {
			return
		}
		n, _, l, _ := commit.Recover(s)
		check(t, "Put", commit.Put(s, n+1, state, x), api.OK)
		if got, back, more, e := commit.Recover(s); got != n+1 || !bytes.Equal(back, state) || !same(more, slices.Concat(l, x)) || e != api.OK {
			t.Fatalf("Recover = %d, %q, %d changes, error %d", got, back, len(more), e)
		}
	})
}
