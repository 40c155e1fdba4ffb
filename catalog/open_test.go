package catalog_test

import (
	"bytes"
	"encoding/binary"
	"fmt"
	"math"
	"slices"
	"testing"

	"headrace/api"
	"headrace/catalog"
	"headrace/files"
)

func checkOpenError(t *testing.T, what string, s *files.Store, parts int, want api.Errno) {
	t.Helper()
	if c, e := catalog.Open(s, parts); c != nil || e != want {
		t.Errorf("%s: Open = %v, error %d; not nil, %d", what, c, e, want)
	}
}

// P8.1: at first there are no segments, and no files.
func TestOpenAtFirst(t *testing.T) {
	for parts := 1; parts <= api.MaxParts; parts++ {
		s := newStore(t, 1)
		for range 2 {
			checkAll(t, "at first", s, opened(t, s, parts), model{parts: parts})
		}
		if s.Ops() != 0 {
			t.Errorf("Open of no files took %d operations", s.Ops())
		}
	}
}

// P8.1: no store goes ahead of a number of partitions that no log has, and that ahead of what the store has.
func TestOpenErrors(t *testing.T) {
	spoilt := newStore(t, 100)
	put(t, spoilt, "cat", []byte("no page of any kind"))
	off := newStore(t, 100)
	put(t, off, "cat", []byte("no page of any kind"))
	check(t, "Arm", off.Arm(1), api.OK)
	check(t, "Append", off.Append("a", nil), api.ErrCrash)
	for _, parts := range []int{math.MinInt, -1, 0, 1, api.MaxParts, api.MaxParts + 1, math.MaxInt} {
		checkOpenError(t, "no store", nil, parts, api.ErrNone)
		if parts == 1 || parts == api.MaxParts {
			checkOpenError(t, "no page", spoilt, parts, api.ErrForm)
			checkOpenError(t, "power off", off, parts, api.ErrCrash)
			continue
		}
		checkOpenError(t, "an empty store", newStore(t, 100), parts, api.ErrArg)
		checkOpenError(t, "no page", spoilt, parts, api.ErrArg)
		checkOpenError(t, "power off", off, parts, api.ErrArg)
	}
}

// long are as many segments as there can be, each with as many events as one can have.
func long() []catalog.Entry {
	l := make([]catalog.Entry, most)
	for i := range l {
		from, to := uint64(i)*api.MaxSeal, uint64(i+1)*api.MaxSeal
		l[i] = catalog.Entry{Name: fmt.Sprintf("seg.%d.%d", from, to), From: from, To: to, Low: -api.MaxTime, High: api.MaxTime}
	}
	return l
}

// P8.1: a catalog as the chapter lays it out, whether there are the segments' files or not.
func TestOpenReadsCat(t *testing.T) {
	for what, c := range map[string]struct {
		page []byte
		want []catalog.Entry
	}{
		"none":  {pageOf('c', []byte{2, 0}), nil},
		"one":   {pageOf('c', []byte{2, 1, 0, 10, 5, 8}), []catalog.Entry{{"seg.0.10", 0, 10, -3, 4}}},
		"two":   {pageOf('c', []byte{2, 2, 0, 1, 0, 0, 1, 0xc8, 1, 1, 1}), []catalog.Entry{{"seg.0.1", 0, 1, 0, 0}, {"seg.1.200", 1, 200, -1, -1}}},
		"most":  {pageOf('c', catBody(2, long())), long()},
		"times": {pageOf('c', catBody(2, long()[:1])), long()[:1]},
	} {
		s := newStore(t, bigRoom)
		put(t, s, "cat", c.page)
		got := opened(t, s, 2)
		to := uint64(0)
		for _, e := range c.want {
			to = e.To
		}
		if !slices.Equal(got.Entries(), c.want) || got.To() != to || got.Parts() != 2 {
			t.Errorf("%s: %+v, to %d, of %d", what, got.Entries(), got.To(), got.Parts())
		}
		if !slices.Equal(s.List(), []string{"cat"}) {
			t.Errorf("%s: files %q", what, s.List())
		}
	}
}

// noCats are files cat that are none of a log of two partitions, and the errors that tell so.
func noCats() map[string]struct {
	p    []byte
	want api.Errno
} {
	type bad = struct {
		p    []byte
		want api.Errno
	}
	form := func(body ...byte) bad { return bad{pageOf('c', body), api.ErrForm} }
	whole := pageOf('c', []byte{2, 2, 0, 10, 5, 8, 10, 20, 0, 0})
	of := func(change func(l []catalog.Entry) []catalog.Entry) bad {
		return bad{pageOf('c', catBody(2, change(long()[:3]))), api.ErrForm}
	}
	one := func(change func(e *catalog.Entry)) bad {
		return of(func(l []catalog.Entry) []catalog.Entry { change(&l[1]); return l })
	}
	l := map[string]bad{
		"nothing":                    {nil, api.ErrForm},
		"another kind":               {pageOf('d', whole[5:len(whole)-4]), api.ErrForm},
		"a byte behind":              {append(slices.Clone(whole), 0), api.ErrForm},
		"the page twice":             {slices.Concat(whole, whole), api.ErrForm},
		"no parts":                   form(0, 0),
		"one part":                   form(1, 0),
		"three parts":                form(3, 0),
		"many parts":                 form(0x82, 2, 0),
		"parts with a nought":        form(0x82, 0, 0),
		"an empty body":              form(),
		"no number of segments":      form(2),
		"fewer segments":             form(2, 2, 0, 10, 5, 8),
		"more segments":              form(2, 1, 0, 10, 5, 8, 10, 20, 0, 0),
		"bytes left":                 form(2, 1, 0, 10, 5, 8, 0),
		"no last time":               form(2, 1, 0, 10, 5),
		"many segments":              form(2, 0xff, 0xff, 0xff, 0xff, 0xff, 0xff, 0xff, 0xff, 0xff, 1),
		"one segment too many":       {pageOf('c', catBody(2, append(long(), catalog.Entry{From: most * api.MaxSeal, To: most*api.MaxSeal + 1}))), api.ErrForm},
		"the first isn't from 0 on":  of(func(l []catalog.Entry) []catalog.Entry { return l[1:] }),
		"a gap":                      of(func(l []catalog.Entry) []catalog.Entry { return slices.Delete(l, 1, 2) }),
		"twice":                      of(func(l []catalog.Entry) []catalog.Entry { return slices.Concat(l, l) }),
		"about":                      of(func(l []catalog.Entry) []catalog.Entry { slices.Reverse(l); return l }),
		"no events":                  form(2, 1, 0, 0, 0, 0),
		"no events behind some":      form(2, 2, 0, 10, 0, 0, 10, 10, 0, 0),
		"it ends ahead of its start": form(2, 2, 0, 10, 0, 0, 10, 9, 0, 0),
		"all bits of an end":         one(func(e *catalog.Entry) { e.To = math.MaxUint64 }),
		"an end of MaxOffset":        one(func(e *catalog.Entry) { e.To = api.MaxOffset }),
		"an overlap":                 one(func(e *catalog.Entry) { e.From-- }),
		"too many events":            {pageOf('c', catBody(2, []catalog.Entry{{To: api.MaxSeal + 1}})), api.ErrForm},
		"times the wrong way round":  one(func(e *catalog.Entry) { e.Low, e.High = 1, 0 }),
		"a time too early":           one(func(e *catalog.Entry) { e.Low = -api.MaxTime - 1 }),
		"a time too late":            one(func(e *catalog.Entry) { e.High = api.MaxTime + 1 }),
		"the latest of all times":    one(func(e *catalog.Entry) { e.Low, e.High = math.MaxInt64, math.MaxInt64 }),
		"the earliest of all times":  one(func(e *catalog.Entry) { e.Low, e.High = math.MinInt64, math.MinInt64 }),
		"more than MaxPage":          {pageOf('c', make([]byte, api.MaxPage+1)), api.ErrForm},
	}
	for n := range whole {
		l[fmt.Sprintf("the first %d bytes", n)] = bad{whole[:n], api.ErrForm}
	}
	// The first four bytes say how many there are: turned, they are no page's.
	for bit := 32; bit < 8*len(whole); bit++ {
		p := slices.Clone(whole)
		p[bit/8] ^= 1 << (bit % 8)
		l[fmt.Sprintf("bit %d turned", bit)] = bad{p, api.ErrSum}
	}
	return l
}

// P8.1, P7: a file cat that isn't one of such a log; nothing changes then.
func TestOpenRefusesCat(t *testing.T) {
	for what, c := range noCats() {
		s := newStore(t, bigRoom)
		for _, name := range []string{"cat.tmp", "seg.0.10", "seg.5.6"} {
			put(t, s, name, []byte(name))
		}
		put(t, s, "cat", c.p)
		before, ops := told(t, s), s.Ops()
		checkOpenError(t, what, s, 2, c.want)
		if told(t, s) != before || s.Ops() != ops {
			t.Errorf("%s: the store has changed", what)
		}
	}
}

// P8.1: of another number of partitions it is no such log's, whichever numbers they are.
func TestOpenOfAnotherLog(t *testing.T) {
	for parts := 1; parts <= api.MaxParts; parts++ {
		s := newStore(t, bigRoom)
		m := model{parts, stretches(parts, 3, 70)}
		sealed(t, s, parts, m.segs)
		for other := 1; other <= api.MaxParts; other++ {
			if other == parts {
				checkTold(t, "the same", opened(t, s, other), m)
				continue
			}
			checkOpenError(t, fmt.Sprintf("%d for %d", other, parts), s, other, api.ErrForm)
		}
	}
}

// P8.1: files of segments that aren't in the catalog go, and cat.tmp; others stay.
func TestOpenCleans(t *testing.T) {
	stray := []string{"cat.tmp", "seg.0.10", "seg.0.4", "seg.3.5", "seg.5.9", "seg.0.0", "seg.9.3", "seg.1099511627776.1099511627776"}
	others := []string{
		"a", "ca", "cat.", "cat.tm", "cat.tmp.1", "cat.tmpx", "cats", "man", "out.1.2", "run.0", "se", "seg", "segs.1.2", "xseg.1.2", "xcat.tmp", "1.2",
		"seg.", "seg.1", "seg.1.", "seg..1", "seg.a.1", "seg.1.a", "seg.1.2.3",
	}
	for _, segs := range [][][]api.Event{nil, stretches(1, 3), stretches(1, 3, 2, 4)} {
		s := newStore(t, bigRoom)
		m := model{1, segs}
		sealed(t, s, 1, segs)
		want := s.List()
		for _, name := range others {
			put(t, s, name, []byte(name))
			want = append(want, name)
		}
		for _, name := range stray {
			if !slices.Contains(want, name) {
				put(t, s, name, []byte(name))
			}
		}
		// What isn't durable goes, too.
		if !slices.Contains(want, "seg.7.8") {
			check(t, "Append", s.Append("seg.7.8", []byte("x")), api.OK)
		}
		slices.Sort(want)
		c := opened(t, s, 1)
		checkTold(t, "opened", c, m)
		if !slices.Equal(s.List(), want) {
			t.Errorf("%d segments: files %q, not %q", len(segs), s.List(), want)
		}
		for _, name := range others {
			if p, e := s.Read(name); !bytes.Equal(p, []byte(name)) || e != api.OK {
				t.Errorf("%s = %q, error %d", name, p, e)
			}
		}
	}
}

// P8.1, P2: it is read as it stands, again and again; what was opened first goes on.
func TestOpenAgain(t *testing.T) {
	s := newStore(t, bigRoom)
	m := model{3, stretches(3, 10, 64, 65)}
	c := sealed(t, s, 3, m.segs)
	ops := s.Ops()
	for range 3 {
		checkTold(t, "again", opened(t, s, 3), m)
	}
	if s.Ops() != ops {
		t.Errorf("Open took %d operations", s.Ops()-ops)
	}
	checkAll(t, "the first", s, c, m)
}

// What Entries answers is new.
func TestEntriesMemory(t *testing.T) {
	s := newStore(t, bigRoom)
	m := model{1, stretches(1, 5, 6)}
	c := sealed(t, s, 1, m.segs)
	l := c.Entries()
	clear(l)
	_ = append(l[:1], catalog.Entry{})
	checkAll(t, "written over", s, c, m)
}

// P8.1, P8.2, P8.3: a nil Catalog.
func TestNilCatalog(t *testing.T) {
	var c *catalog.Catalog
	if c.To() != 0 || len(c.Entries()) != 0 || c.Parts() != 0 {
		t.Errorf("%d, %v, %d", c.To(), c.Entries(), c.Parts())
	}
	for _, l := range [][]api.Event{nil, eventsFrom(0, 3, 1), eventsFrom(4, 3, 1)} {
		check(t, "Seal", c.Seal(l), api.ErrNone)
	}
	for _, i := range []int{-1, 0, 1, math.MaxInt} {
		check(t, "Compact", c.Compact(i), api.ErrNone)
	}
	checkScanError(t, "nil", c, all, api.ErrNone)
}

// P1: a zero value is no object of Open's, but panics at nothing.
func TestZeroCatalog(t *testing.T) {
	var c catalog.Catalog
	c.To()
	c.Entries()
	c.Parts()
	c.Seal(nil)
	c.Seal(eventsFrom(0, 3, 1))
	c.Compact(0)
	c.Scan(all)
}

// FuzzOpen: of whatever bytes the file cat has, Open answers an error, or a catalog that is laid as these bytes.
func FuzzOpen(f *testing.F) {
	for _, c := range noCats() {
		if len(c.p) > 9 && len(c.p) < 1000 {
			f.Add(c.p[5:len(c.p)-4], 2)
		}
	}
	f.Add([]byte{2, 2, 0, 10, 5, 8, 10, 20, 0, 0}, 2)
	f.Fuzz(func(t *testing.T, body []byte, parts int) {
		s := newStore(t, api.MaxStore)
		put(t, s, "cat", pageOf('c', body))
		c, e := catalog.Open(s, parts)
		if e != api.OK {
			if c != nil || e != api.ErrForm && e != api.ErrArg {
				t.Fatalf("%v, error %d", c, e)
			}
			return
		}
		l := c.Entries()
		to := uint64(0)
		for _, e := range l {
			if e.From != to || e.To <= to || e.To-to > api.MaxSeal || e.Name != fmt.Sprintf("seg.%d.%d", e.From, e.To) {
				t.Fatalf("%+v", l)
			}
			if e.Low > e.High || e.Low < -api.MaxTime || e.High > api.MaxTime {
				t.Fatalf("%+v", l)
			}
			to = e.To
		}
		if len(l) > most || c.To() != to || c.Parts() != parts || !bytes.Equal(catBody(parts, l), body) {
			t.Fatalf("%d segments, to %d: %x, not %x", len(l), c.To(), catBody(parts, l), body)
		}
		if n, size := binary.Uvarint(body); size <= 0 || n != uint64(parts) {
			t.Fatalf("of %d partitions: %x", parts, body)
		}
	})
}
