package stream_test

import (
	"encoding/binary"
	"fmt"
	"math/rand/v2"
	"slices"
	"strings"
	"testing"

	"headrace/api"
	"headrace/page"
	"headrace/stream"
)

// P17.4: what is loaded, at every place of a run, does whatever is done to it as the saved one does; it tells nothing of what Out would have told.
func TestSaveAtEachPlace(t *testing.T) {
	for seed := range uint64(40) {
		r := rand.New(rand.NewPCG(23, seed))
		c := anyConfig(r)
		log := someLog(r, 60, c.Parts)
		o, m := newBoth(t, c, log[:15])
		copies := []*stream.Operator{loaded(t, o)}
		step := func(what string, do func(o *stream.Operator) api.Errno) {
			want := do(o)
			out, saved := o.Out(), string(o.Save())
			for place, x := range copies {
				if e := do(x); e != want {
					t.Fatalf("%s: loaded at %d: error %d, not %d", what, place, e, want)
				}
				if l := x.Out(); !sameChanges(l, out) {
					t.Fatalf("%s: loaded at %d: Out = %s\nnot %s", what, place, briefly(l), briefly(out))
				}
				if string(x.Save()) != saved {
					t.Fatalf("%s: loaded at %d: saved otherwise", what, place)
				}
			}
			copies = append(copies, loaded(t, o))
			checkState(t, what, copies[r.IntN(len(copies))], m)
		}
		if l := copies[0].Out(); len(l) > 0 {
			t.Fatalf("seed %d: what is loaded tells %s", seed, briefly(l))
		}
		o.Out()
		for _, e := range someOrder(r, log[15:]) {
			m.in(e)
			step(fmt.Sprintf("seed %d, %+v, %+v", seed, c, e), func(o *stream.Operator) api.Errno { return o.In(e) })
		}
		for range 2 {
			m.end()
			step(fmt.Sprintf("seed %d, %+v, End", seed, c), func(o *stream.Operator) api.Errno { return o.End() })
		}
	}
}

// P17.4: Save leaves what Out tells; what is loaded doesn't tell it.
func TestSaveAndOut(t *testing.T) {
	for seed := range uint64(40) {
		r := rand.New(rand.NewPCG(24, seed))
		c := anyConfig(r)
		log := someLog(r, 60, c.Parts)
		o, m := newBoth(t, c, log[:20])
		for _, e := range log[20:] {
			check(t, e, o.In(e), m.in(e))
			if l := loaded(t, o).Out(); len(l) > 0 {
				t.Fatalf("seed %d: what is loaded tells %s", seed, briefly(l))
			}
		}
		check(t, "End", o.End(), m.end())
		if l := loaded(t, o).Out(); len(l) > 0 {
			t.Fatalf("seed %d: what is loaded tells %s", seed, briefly(l))
		}
		checkOut(t, "saved", o, m)
	}
}

// P2: operators that were told the same are saved as the same bytes, in whatever order their keys came.
func TestSaveIsTheSame(t *testing.T) {
	r := rand.New(rand.NewPCG(25, 1))
	for range 20 {
		c := anyConfig(r)
		c.Late, c.Parts = -1, 1
		var log []api.Event
		for i := range 60 {
			log = append(log, api.Event{Offset: uint64(i), Time: r.Int64N(40), Key: strings.Repeat("k", i%20), Val: 1})
		}
		log[0].Time = -api.MaxTime // nothing is told, so that no revisions are told apart
		c.Skew = api.MaxSize
		var first string
		for range 20 {
			o := newZero(t, c)
			for _, i := range r.Perm(len(log)) {
				check(t, "In", o.In(log[i]), api.OK)
			}
			p := string(o.Save())
			if first == "" {
				first = p
			}
			if p != first || string(o.Save()) != first {
				t.Fatalf("%+v: saved as %x, and as %x", c, first, p)
			}
		}
	}
}

// P2: what Save answers, and what Load is handed, may be written over; Load doesn't change it.
func TestSavedBytesAreNotKept(t *testing.T) {
	for seed := range uint64(30) {
		r := rand.New(rand.NewPCG(26, seed))
		c := anyConfig(r)
		log := someLog(r, 60, c.Parts)
		o, m := newBoth(t, c, log[:20])
		checkOut(t, "New", o, m)
		for _, e := range log[20:] {
			p := o.Save()
			before := string(p)
			l, e2 := stream.Load(p)
			check(t, "Load", e2, api.OK)
			if string(p) != before {
				t.Fatalf("seed %d: Load changes what it is handed", seed)
			}
			clear(p[:cap(p)])
			if string(o.Save()) != before || string(l.Save()) != before {
				t.Fatalf("seed %d: what is saved is kept", seed)
			}
			o = l
			check(t, "In", o.In(e), m.in(e))
			checkOut(t, e, o, m)
		}
	}
}

// wide is an operator that holds n panes, of one key or of many.
func wide(t *testing.T, n, keys int) *stream.Operator {
	t.Helper()
	o := newZero(t, with(tumbling(10), -1, 0, 1))
	for i := range n {
		e := api.Event{Offset: uint64(i), Time: int64(i) * 1000, Key: fmt.Sprint("key ", i%keys), Val: float64(i) + 0.5}
		check(t, "In", o.In(e), api.OK)
	}
	return o
}

// pagesOf are the pages of some bytes: each one's body.
func pagesOf(t *testing.T, p []byte) [][]byte {
	t.Helper()
	var l [][]byte
	for at := 0; at < len(p); {
		_, body, behind, e := page.Read(p, at)
		check(t, "page.Read", e, api.OK)
		l, at = append(l, body), behind
	}
	return l
}

// P17.4: an operator that takes more bytes than a page has is saved and loaded, too, and what is cut from it, or put between, is told.
func TestManyPanes(t *testing.T) {
	for _, keys := range []int{1, 1 << 20} {
		o := wide(t, 20000, keys)
		p := o.Save()
		pages := pagesOf(t, p)
		if len(pages) < 3 || o.Open() != 20000 {
			t.Fatalf("%d pages, %d held", len(pages), o.Open())
		}
		o.Out()
		l := loaded(t, o)
		for i := range 2000 {
			e := api.Event{Offset: uint64(20000 + i), Time: int64(i * 777), Key: fmt.Sprint("key ", i), Val: 2}
			check(t, "In", o.In(e), api.OK)
			check(t, "In", l.In(e), api.OK)
		}
		check(t, "End", o.End(), api.OK)
		check(t, "End", l.End(), api.OK)
		if a, b := o.Out(), l.Out(); !sameChanges(a, b) || string(o.Save()) != string(l.Save()) {
			t.Errorf("what is loaded tells %d changes, not %d", len(b), len(a))
		}
		size := len(pages[0]) + 9
		for _, q := range [][]byte{p[:size], p[:2*size], p[size:], slices.Concat(p[:size], p), slices.Concat(p, p[:size]), slices.Concat(p, p), slices.Concat(p[size:2*size], p[:size], p[2*size:])} {
			if x, e := stream.Load(q); x != nil || e != api.ErrForm {
				t.Errorf("pages that aren't all, or too many: %v, error %d", x != nil, e)
			}
		}
		for _, at := range []int{size - 5, size + 5, 2*size - 5, 2*size + 5, len(p) - 5} {
			q := slices.Clone(p)
			q[at] ^= 1
			if x, e := stream.Load(q); x != nil || e != api.ErrSum {
				t.Errorf("a bit of the byte %d of %d is turned: %v, error %d", at, len(p), x != nil, e)
			}
		}
	}
}

// P17.4: operators whose bytes are just as many as a page has, or some more or fewer.
func TestAboutAPage(t *testing.T) {
	o := wide(t, 1, 1)
	bodySize := func() int {
		n := 0
		for _, body := range pagesOf(t, o.Save()) {
			n += len(body)
		}
		return n
	}
	next := uint64(1)
	// A key of n bytes, of a window that isn't held.
	add := func(n int) {
		key := make([]byte, n)
		binary.LittleEndian.PutUint64(key[n-8:], next)
		check(t, "In", o.In(api.Event{Offset: next, Time: -55, Key: string(key), Val: 1}), api.OK)
		next++
	}
	before := bodySize()
	add(32)
	one := bodySize() - before
	for range (api.MaxPage-bodySize())/one - 20 {
		add(32)
	}
	for beyond := -2; beyond <= 2; beyond++ {
		saved, first := o, next
		o = loaded(t, o)
		left := api.MaxPage + beyond - bodySize()
		for n := left/one + 1; n > 0; n-- {
			size := left / n
			add(32 - (one - size))
			left -= size
		}
		if size := bodySize(); size != api.MaxPage+beyond {
			t.Errorf("%d bytes, not %d beyond a page's", size, beyond)
		}
		if n := len(pagesOf(t, o.Save())); n != 1 && beyond < 0 || n != 2 && beyond >= 0 {
			t.Errorf("%d beyond a page's are %d pages", beyond, n)
		}
		loaded(t, o)
		o, next = saved, first
	}
}
