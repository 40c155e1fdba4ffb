package batch_test

import (
	"bytes"
	"fmt"
	"math"
	"math/rand/v2"
	"slices"
	"strings"
	"testing"

	"headrace/agg"
	"headrace/api"
	"headrace/batch"
	"headrace/catalog"
	"headrace/files"
	"headrace/sorter"
	"headrace/whole"
)

const bigRoom = 1 << 22

var longest = strings.Repeat("\xff", api.MaxKey)

// vals are values of all kinds.
var vals = []float64{
	0, math.Copysign(0, -1), 1, -1, 0.1, 1e300, -1e300, math.SmallestNonzeroFloat64, -math.MaxFloat64, math.MaxFloat64,
	math.Inf(1), math.Inf(-1), math.NaN(), math.Float64frombits(0xfff0000000000009),
}

var plan = sorter.Plan{Hold: 16, Fan: 3}

// plans are plans at and about all limits.
func plans() []sorter.Plan {
	var l []sorter.Plan
	for _, hold := range []int{1, 2, 7, 64, api.MaxRows} {
		for _, fan := range []int{2, 3, api.MaxFan} {
			l = append(l, sorter.Plan{Hold: hold, Fan: fan})
		}
	}
	return l
}

func tumbling(size int64) api.Config {
	return api.Config{Kind: api.Tumbling, Size: size, Parts: 2}
}

func sliding(size, step int64) api.Config {
	return api.Config{Kind: api.Sliding, Size: size, Step: step, Parts: 2}
}

func session(size int64) api.Config {
	return api.Config{Kind: api.Session, Size: size, Parts: 2}
}

// configs are configs of each kind, of two partitions.
func configs() []api.Config {
	return []api.Config{
		tumbling(1), tumbling(10), tumbling(api.MaxSize),
		sliding(10, 4), sliding(10, 10), sliding(16, 1), sliding(7, 5), sliding(api.MaxSize, api.MaxSize/api.MaxShare),
		session(1), session(3), session(10), session(api.MaxSize),
	}
}

// upTo is a config whose archive ends at a cut.
func upTo(c api.Config, cut uint64) api.Config {
	c.Cut = cut
	return c
}

// anyConfig is a config of small sizes, of each kind.
func anyConfig(r *rand.Rand, parts int) api.Config {
	size := 1 + r.Int64N(20)
	c := []api.Config{tumbling(size), session(size)}[r.IntN(2)]
	if r.IntN(3) == 0 {
		fewest := (size + api.MaxShare - 1) / api.MaxShare
		c = sliding(size, fewest+r.Int64N(size-fewest+1))
	}
	c.Parts = parts
	c.Late, c.Skew = r.Int64N(30)-5, r.Int64N(30)
	return c
}

// someEvents are a log's first n events, of few keys, whose times are few and near to one another around a time.
func someEvents(r *rand.Rand, n, parts int, around, within int64) []api.Event {
	keys := []string{"", "a", "ab", "b", "a\x00", longest}[r.IntN(4):]
	l := make([]api.Event, n)
	for i := range l {
		at := around + r.Int64N(2*within+1) - within
		l[i] = api.Event{
			Offset: uint64(i),
			Part:   r.IntN(parts),
			Time:   max(-api.MaxTime, min(api.MaxTime, at)),
			Key:    keys[r.IntN(len(keys))],
			Val:    math.Ldexp(r.Float64()-0.5, r.IntN(200)-100),
		}
		if r.IntN(20) == 0 {
			l[i].Val = vals[r.IntN(len(vals))]
		}
	}
	return l
}

// logOf are a log's first events.
func logOf(l ...api.Event) []api.Event {
	for i := range l {
		l[i].Offset = uint64(i)
	}
	return l
}

// at is an event, but for its offset.
func at(part int, time int64, key string, val float64) api.Event {
	return api.Event{Part: part, Time: time, Key: key, Val: val}
}

func check(t *testing.T, what string, got, want api.Errno) {
	t.Helper()
	if got != want {
		t.Fatalf("%s: error %d, not %d", what, got, want)
	}
}

func newStore(t *testing.T, room int) *files.Store {
	t.Helper()
	s, e := files.New(room)
	check(t, "files.New", e, api.OK)
	return s
}

// put makes a file of these bytes, durable, in the place of the one that there is.
func put(t *testing.T, s *files.Store, name string, p []byte) {
	t.Helper()
	if slices.Contains(s.List(), name) {
		check(t, "Delete "+name, s.Delete(name), api.OK)
	}
	check(t, "Append "+name, s.Append(name, p), api.OK)
	check(t, "Sync "+name, s.Sync(name), api.OK)
}

// archived is a store's catalog of a log's first events, in segments of so many each; those that are left over are the last one.
func archived(t *testing.T, s *files.Store, l []api.Event, parts int, sizes ...int) *catalog.Catalog {
	t.Helper()
	c, e := catalog.Open(s, parts)
	check(t, "catalog.Open", e, api.OK)
	for _, n := range sizes {
		n = min(n, len(l))
		if n > 0 {
			check(t, "Seal", c.Seal(l[:n]), api.OK)
		}
		l = l[n:]
	}
	for rows := range slices.Chunk(l, api.MaxSeal) {
		check(t, "Seal", c.Seal(rows), api.OK)
	}
	return c
}

// told is all that a store tells of its files.
func told(t *testing.T, s *files.Store) string {
	t.Helper()
	var b strings.Builder
	for _, name := range s.List() {
		p, e := s.Read(name)
		check(t, "Read "+name, e, api.OK)
		fmt.Fprintf(&b, "%s=%x ", name, p)
	}
	return b.String()
}

func sameGroup(a, b whole.Group) bool {
	return a.Key == b.Key && a.W == b.W && a.S.Len() == b.S.Len() && bytes.Equal(agg.Lay(nil, a.S), agg.Lay(nil, b.S))
}

// checkMarks looks that a boot's marks are the greatest times of these events, found by looking.
func checkMarks(t *testing.T, what string, got batch.Boot, l []api.Event, parts int) {
	t.Helper()
	low, all := int64(math.MaxInt64), true
	for part := -1; part <= api.MaxParts; part++ {
		var times []int64
		for _, e := range l {
			if e.Part == part {
				times = append(times, e.Time)
			}
		}
		want := int64(0)
		if len(times) > 0 {
			want = slices.Max(times)
			low = min(low, want)
		} else if part >= 0 && part < parts {
			all = false
		}
		if x, ok := got.Marks.Of(part); x != want || ok != (len(times) > 0) {
			t.Fatalf("%s: the partition %d is seen up to %d, %v; not %d", what, part, x, ok, want)
		}
	}
	if !all {
		low = 0
	}
	if x, ok := got.Marks.Low(); x != low || ok != all {
		t.Fatalf("%s: Low = %d, %v; not %d, %v", what, x, ok, low, all)
	}
}

// checkBoot looks that a boot is what events of a log of so many partitions come to.
func checkBoot(t *testing.T, what string, got batch.Boot, c api.Config, l []api.Event) {
	t.Helper()
	if got.N != len(l) {
		t.Fatalf("%s: N is %d, not %d", what, got.N, len(l))
	}
	if want := whole.Groups(c, l); !slices.EqualFunc(got.Groups, want, sameGroup) {
		t.Fatalf("%s: %+v: groups %v, not %v", what, c, briefly(got.Groups), briefly(want))
	}
	checkMarks(t, what, got, l, c.Parts)
}

// briefly tells groups: each one's key, window and how many values it has.
func briefly(l []whole.Group) []string {
	var texts []string
	for _, g := range l {
		texts = append(texts, fmt.Sprintf("%q %d %d %d", g.Key, g.W.Start, g.W.End, g.S.Len()))
	}
	return texts
}

// ran is what Run answers, which must be what the events of the archive up to the config's cut come to; the store's files must stay as they are, but for those of runs, which go.
func ran(t *testing.T, what string, s *files.Store, cat *catalog.Catalog, c api.Config, p sorter.Plan, log []api.Event) batch.Boot {
	t.Helper()
	entries := cat.Entries()
	b, e := batch.Run(s, cat, c, p)
	check(t, what+": Run", e, api.OK)
	checkBoot(t, what, b, c, log[:c.Cut])
	checkNoRuns(t, what, s)
	if !slices.Equal(cat.Entries(), entries) {
		t.Fatalf("%s: the catalog has changed", what)
	}
	return b
}

// checkNoRuns looks that no file of a sort is left.
func checkNoRuns(t *testing.T, what string, s *files.Store) {
	t.Helper()
	for _, name := range s.List() {
		if strings.HasPrefix(name, "run.") {
			t.Fatalf("%s: files %q", what, s.List())
		}
	}
}

// isZero: is it a zero value?
func isZero(b batch.Boot) bool {
	var none batch.Boot
	return len(b.Groups) == 0 && b.Marks == none.Marks && b.N == 0
}

// checkError looks that Run answers this error, and a zero value beside it.
func checkError(t *testing.T, what string, s *files.Store, cat *catalog.Catalog, c api.Config, p sorter.Plan, want api.Errno) {
	t.Helper()
	b, e := batch.Run(s, cat, c, p)
	if e != want || !isZero(b) {
		t.Fatalf("%s: Run = %d groups, %v, %d, error %d; not error %d beside a zero value", what, len(b.Groups), b.Marks, b.N, e, want)
	}
}
