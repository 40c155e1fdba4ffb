package stream_test

import (
	"fmt"
	"math"
	"math/rand/v2"
	"testing"

	"headrace/api"
	"headrace/stream"
)

// step is an event that comes, of the next offset, and what is to be told behind it: what Out answers, how many panes are held, how many events were late.
type step struct {
	part int
	time int64
	key  string
	val  float64
	told string
	open int
	late uint64
}

// walk is a config, the events that come, and what End tells.
type walk struct {
	c     api.Config
	steps []step
	end   string
}

// check goes through a walk, and, beside it, through it with an operator that is saved and loaded at each step.
func (w walk) check(t *testing.T, what string) {
	t.Helper()
	o, again := newZero(t, w.c), newZero(t, w.c)
	for i, s := range w.steps {
		again = loaded(t, again)
		for _, x := range []*stream.Operator{o, again} {
			at := fmt.Sprintf("%s, step %d", what, i)
			check(t, at, x.In(api.Event{Offset: uint64(i), Part: s.part, Time: s.time, Key: s.key, Val: s.val}), api.OK)
			if got := briefly(x.Out()); got != s.told || x.Open() != s.open || x.Late() != s.late || !x.Seen(uint64(i)) {
				t.Fatalf("%s: told %q, %d held, %d late; not %q, %d, %d", at, got, x.Open(), x.Late(), s.told, s.open, s.late)
			}
		}
	}
	for _, x := range []*stream.Operator{o, loaded(t, again)} {
		check(t, what, x.End(), api.OK)
		if got := briefly(x.Out()); got != w.end || !x.Ended() {
			t.Fatalf("%s: told %q behind End, not %q", what, got, w.end)
		}
	}
}

// The chapter's example.
func TestExample(t *testing.T) {
	walk{tumbling(10), []step{
		{0, 3, "", 1, "", 1, 0},
		{0, 12, "", 2, "+0 [0 10) 1 1", 1, 0},
		{0, 25, "", 4, "+0 [10 20) 1 2", 1, 0},
		{0, 7, "", 8, "", 1, 1},
	}, "+0 [20 30) 1 4"}.check(t, "example")
}

// P17.1: just at the mark a time isn't late, one beyond it is; late events are in no pane; of each kind, with Late and Skew 0 and above.
func TestLateAtTheMark(t *testing.T) {
	for _, x := range []struct {
		c    api.Config
		last int64 // the end of the last window of the time 9
	}{
		{tumbling(10), 10}, {sliding(10, 4), 18}, {sliding(10, 5), 15}, {sliding(10, 10), 10}, {session(5), 14}, {tumbling(1), 10}, {session(1), 10},
	} {
		for _, late := range []int64{0, 1, 7, api.MaxSize} {
			for _, skew := range []int64{0, 1, 13, api.MaxSize} {
				c := with(x.c, late, skew, 1)
				for beyond := range int64(2) {
					o := newZero(t, c)
					at := x.last + late + skew + beyond
					check(t, "In", o.In(api.Event{Time: at, Key: "far"}), api.OK)
					if mark, ok := o.Mark(); mark != x.last+late+beyond || !ok {
						t.Fatalf("%+v: Mark = %d, %v", c, mark, ok)
					}
					open := o.Open()
					check(t, "In", o.In(api.Event{Offset: 1, Time: 9, Key: "near"}), api.OK)
					if o.Late() != uint64(beyond) || (o.Open() > open) != (beyond == 0) || !o.Seen(1) {
						t.Errorf("%+v, %d beyond: %d late, %d held, %d ahead, Seen %v", c, beyond, o.Late(), o.Open(), open, o.Seen(1))
					}
					check(t, "In again", o.In(api.Event{Offset: 1, Time: at}), api.ErrTwice)
					if mark, _ := o.Mark(); mark != x.last+late+beyond {
						t.Errorf("%+v: the mark went to %d", c, mark)
					}
				}
			}
		}
	}
}

// P17.1: below 0 Late is as late as it likes: nothing is late, nothing dies, and revisions go on.
func TestNeverLate(t *testing.T) {
	for _, late := range []int64{-1, -7, math.MinInt64} {
		walk{with(tumbling(10), late, 0, 1), []step{
			{0, 3, "a", 1, "", 1, 0},
			{0, api.MaxTime, "a", 2, "+0 a[0 10) 1 1", 2, 0},
			{0, 4, "a", 4, "-0 a[0 10) 1 1, +1 a[0 10) 2 5", 2, 0},
			{0, -api.MaxTime, "b", 8, "+0 b[-1099511627780 -1099511627770) 1 8", 3, 0},
			{0, 5, "a", 16, "-1 a[0 10) 2 5, +2 a[0 10) 3 21", 3, 0},
		}, "+0 a[1099511627770 1099511627780) 1 2"}.check(t, fmt.Sprint(late))
	}
}

// P17.1: where there is no mark, since a partition wasn't seen, nothing is late, and nothing is told, but at End.
func TestNoMark(t *testing.T) {
	walk{with(tumbling(10), 0, 0, 2), []step{
		{0, 100, "a", 1, "", 1, 0},
		{0, 3, "b", 2, "", 2, 0},
		{0, -50, "", 4, "", 3, 0},
		{0, 1000, "a", 8, "", 4, 0},
	}, "+0 [-50 -40) 1 4, +0 b[0 10) 1 2, +0 a[100 110) 1 1, +0 a[1000 1010) 1 8"}.check(t, "never seen")
	walk{with(tumbling(10), 0, 0, 2), []step{
		{0, 100, "a", 1, "", 1, 0},
		{0, 3, "b", 2, "", 2, 0},
		{1, 20, "b", 4, "+0 b[0 10) 1 2", 2, 0},
		{1, 9, "b", 8, "", 2, 1},
		{1, 110, "b", 16, "+0 b[20 30) 1 4", 2, 1},
		{0, 110, "b", 32, "+0 a[100 110) 1 1", 2, 1},
	}, "+0 b[110 120) 2 48"}.check(t, "seen at last")
}

// P17.2: a window that ends at the mark is told, one beyond it isn't; the skew goes from the mark.
func TestToldAtTheMark(t *testing.T) {
	walk{tumbling(10), []step{
		{0, 3, "a", 1, "", 1, 0},
		{0, 9, "b", 2, "", 2, 0},
		{0, 10, "b", 4, "+0 a[0 10) 1 1, +0 b[0 10) 1 2", 3, 0},
		{0, 9, "a", 8, "-0 a[0 10) 1 1, +1 a[0 10) 2 9", 3, 0},
		{0, 0, "", 16, "+0 [0 10) 1 16", 4, 0},
		{0, 11, "b", 32, "", 1, 0},
		{0, 9, "a", 64, "", 1, 1},
	}, "+0 b[10 20) 2 36"}.check(t, "Late 0")
	walk{with(tumbling(10), 2, 5, 1), []step{
		{0, 3, "a", 1, "", 1, 0},
		{0, 14, "a", 2, "", 2, 0},
		{0, 15, "a", 4, "+0 a[0 10) 1 1", 2, 0},
		{0, 17, "a", 8, "", 2, 0},
		{0, 9, "a", 16, "-0 a[0 10) 1 1, +1 a[0 10) 2 17", 2, 0},
		{0, 18, "a", 32, "", 1, 0},
		{0, 9, "a", 64, "", 1, 1},
	}, "+0 a[10 20) 4 46"}.check(t, "Late 2, Skew 5")
	walk{with(tumbling(10), 0, 5, 1), []step{
		{0, -3, "a", 1, "", 1, 0},
		{0, 4, "a", 2, "", 2, 0},
		{0, 5, "a", 4, "+0 a[-10 0) 1 1", 2, 0},
		{0, 6, "a", 8, "", 1, 0},
	}, "+0 a[0 10) 3 14"}.check(t, "below 0")
}

// P17.1, P17.2: of several windows those that were told are taken back and told again, rising, the others wait.
func TestSliding(t *testing.T) {
	walk{sliding(10, 4), []step{
		{0, 9, "a", 1, "", 3, 0},
		{0, 10, "b", 2, "+0 a[0 10) 1 1", 5, 0},
		{0, 9, "a", 4, "-0 a[0 10) 1 1, +1 a[0 10) 2 5", 5, 0},
		{0, 14, "b", 8, "+0 a[4 14) 2 5, +0 b[4 14) 1 2", 6, 0},
		{0, 9, "a", 16, "-1 a[0 10) 2 5, +2 a[0 10) 3 21, -0 a[4 14) 2 5, +1 a[4 14) 3 21", 6, 0},
		{0, 18, "b", 32, "+0 a[8 18) 3 21, +0 b[8 18) 2 10", 7, 0},
		{0, 9, "a", 64, "-2 a[0 10) 3 21, +3 a[0 10) 4 85, -1 a[4 14) 3 21, +2 a[4 14) 4 85, -0 a[8 18) 3 21, +1 a[8 18) 4 85", 7, 0},
		{0, 9, "c", 128, "+0 c[0 10) 1 128, +0 c[4 14) 1 128, +0 c[8 18) 1 128", 10, 0},
		{0, 19, "b", 1, "", 8, 0},
		{0, 9, "a", 2, "", 8, 1},
	}, "+0 b[12 22) 3 41, +0 b[16 26) 2 33"}.check(t, "sliding")
}

// P17.1: sessions that weren't told grow and join without a word.
func TestSessionsThatWait(t *testing.T) {
	walk{with(session(5), 0, 100, 1), []step{
		{0, 10, "a", 1, "", 1, 0},
		{0, 14, "a", 2, "", 1, 0},
		{0, 6, "a", 4, "", 1, 0},
		{0, 19, "a", 8, "", 2, 0},
		{0, 1, "a", 16, "", 3, 0},
		{0, 16, "b", 32, "", 4, 0},
		{0, 15, "a", 64, "", 3, 0},
		{0, 5, "a", 128, "", 2, 0},
		{0, 12, "a", 256, "", 2, 0},
	}, "+0 b[16 21) 1 32, +0 a[1 24) 8 479"}.check(t, "waiting")
}

// P17.1: sessions that were told grow at either end, join one and two others, and have another value within.
func TestSessionsThatWereTold(t *testing.T) {
	walk{with(session(5), 100, 0, 1), []step{
		{0, 10, "a", 1, "", 1, 0},
		{0, 40, "z", 2, "+0 a[10 15) 1 1", 2, 0},
		{0, 10, "a", 4, "-0 a[10 15) 1 1, +1 a[10 15) 2 5", 2, 0},
		{0, 12, "a", 8, "-1 a[10 15) 2 5, +0 a[10 17) 3 13", 2, 0},
		{0, 7, "a", 16, "-0 a[10 17) 3 13, +0 a[7 17) 4 29", 2, 0},
		{0, 11, "a", 32, "-0 a[7 17) 4 29, +1 a[7 17) 5 61", 2, 0},
		{0, 2, "a", 64, "+0 a[2 7) 1 64", 3, 0},
		{0, 17, "a", 128, "+0 a[17 22) 1 128", 4, 0},
		{0, 16, "a", 256, "-1 a[7 17) 5 61, -0 a[17 22) 1 128, +0 a[7 22) 7 445", 3, 0},
		{0, 3, "a", 512, "-0 a[2 7) 1 64, -0 a[7 22) 7 445, +0 a[2 22) 9 1021", 2, 0},
		{0, 20, "a", 1024, "-0 a[2 22) 9 1021, +0 a[2 25) 10 2045", 2, 0},
	}, "+0 z[40 45) 1 2"}.check(t, "told")
	walk{with(session(5), 100, 0, 1), []step{
		{0, 10, "a", 1, "", 1, 0},
		{0, 17, "a", 2, "+0 a[10 15) 1 1", 2, 0},
		{0, 14, "a", 4, "-0 a[10 15) 1 1", 1, 0},
		{0, 13, "a", 8, "", 1, 0},
		{0, 22, "a", 16, "+0 a[10 22) 4 15", 2, 0},
		{0, 21, "a", 32, "-0 a[10 22) 4 15", 1, 0},
	}, "+0 a[10 27) 6 63"}.check(t, "one told, one waiting")
}

// P17.1, P17.2: a session at whose edges times are late, but for those by which it is joined, and one of the same key that comes when it is dead.
func TestSessionsThatDie(t *testing.T) {
	walk{session(5), []step{
		{0, 1, "a", 1, "", 1, 0},
		{0, 6, "b", 2, "+0 a[1 6) 1 1", 2, 0},
		{0, 7, "b", 4, "", 2, 0},
		{0, 1, "a", 8, "", 2, 1},
		{0, 2, "a", 16, "-0 a[1 6) 1 1, +0 a[1 7) 2 17", 2, 1},
		{0, 11, "b", 32, "", 2, 1},
		{0, 6, "a", 64, "-0 a[1 7) 2 17, +0 a[1 11) 3 81", 2, 1},
		{0, 15, "b", 128, "", 2, 1},
		{0, 16, "b", 256, "", 1, 1},
		{0, 11, "a", 512, "+0 a[11 16) 1 512", 2, 1},
		{0, 10, "a", 1024, "", 2, 2},
		{0, 50, "a", 2048, "+0 b[6 21) 5 422", 1, 2},
		{0, 55, "b", 1, "+0 a[50 55) 1 2048", 2, 2},
	}, "+0 b[55 60) 1 1"}.check(t, "dying")
}

// P17.2: panes are told by their windows' ends, then their starts, then their keys.
func TestOrderOfTelling(t *testing.T) {
	walk{with(tumbling(10), 0, 5, 1), []step{
		{0, 13, "b", 1, "", 1, 0},
		{0, 3, "b", 2, "", 2, 0},
		{0, 13, "", 4, "", 3, 0},
		{0, 3, "a\x00", 8, "", 4, 0},
		{0, 3, "a", 16, "", 5, 0},
		{0, 13, "ab", 32, "", 6, 0},
		{0, 3, longest, 64, "", 7, 0},
		{0, 40, "z", 128, "+0 a[0 10) 1 16, +0 a\x00[0 10) 1 8, +0 b[0 10) 1 2, +0 " + longest + "[0 10) 1 64, +0 [10 20) 1 4, +0 ab[10 20) 1 32, +0 b[10 20) 1 1", 1, 0},
	}, "+0 z[40 50) 1 128"}.check(t, "keys")
	walk{with(session(5), 0, 20, 1), []step{
		{0, 5, "a", 1, "", 1, 0},
		{0, 5, "z", 2, "", 2, 0},
		{0, 2, "z", 4, "", 2, 0},
		{0, 4, "b", 8, "", 3, 0},
		{0, 0, "b", 16, "", 3, 0},
		{0, 5, "0", 32, "", 4, 0},
		{0, 45, "c", 64, "+0 b[0 9) 2 24, +0 z[2 10) 2 6, +0 0[5 10) 1 32, +0 a[5 10) 1 1", 1, 0},
	}, "+0 c[45 50) 1 64"}.check(t, "sessions")
	walk{with(sliding(10, 4), 0, 30, 1), []step{
		{0, 9, "b", 1, "", 3, 0},
		{0, 5, "a", 2, "", 6, 0},
		{0, 60, "c", 4, "+0 a[-4 6) 1 2, +0 a[0 10) 1 2, +0 b[0 10) 1 1, +0 a[4 14) 1 2, +0 b[4 14) 1 1, +0 b[8 18) 1 1", 3, 0},
	}, "+0 c[52 62) 1 4, +0 c[56 66) 1 4, +0 c[60 70) 1 4"}.check(t, "windows")
}

// P17.1, P17.2: what is told again at once is told ahead of what the mark has come to, which was late in coming.
func TestAtOnce(t *testing.T) {
	walk{with(sliding(10, 5), 20, 0, 1), []step{
		{0, 7, "a", 1, "", 2, 0},
		{0, 30, "b", 2, "+0 a[0 10) 1 1, +0 a[5 15) 1 1", 4, 0},
		{0, 12, "a", 4, "-0 a[5 15) 1 1, +1 a[5 15) 2 5, +0 a[10 20) 1 4", 5, 0},
		{0, 3, "a", 8, "-0 a[0 10) 1 1, +1 a[0 10) 2 9, +0 a[-5 5) 1 8", 6, 0},
	}, "+0 b[25 35) 1 2, +0 b[30 40) 1 2"}.check(t, "at once")
}

// P17.2: End with nothing, with what isn't told, and a second time; behind it no event comes.
func TestEnd(t *testing.T) {
	for _, c := range configs() {
		o := newZero(t, c)
		check(t, "End of nothing", o.End(), api.OK)
		if len(o.Out()) > 0 || !o.Ended() || o.Open() != 0 {
			t.Errorf("%+v: told behind End of nothing", c)
		}
	}
	r := rand.New(rand.NewPCG(17, 3))
	for range 100 {
		c := anyConfig(r)
		o, m := newBoth(t, c, someLog(r, 30, c.Parts))
		for _, e := range someLog(r, 60, c.Parts) {
			check(t, "In", o.In(e), m.in(e))
		}
		for range 3 {
			check(t, "End", o.End(), m.end())
			checkOut(t, "End", o, m)
			checkState(t, "End", o, m)
			before := string(o.Save())
			for _, e := range []api.Event{{Offset: 1000}, {Offset: 0}, {Offset: 31}, {Part: -1}, {Offset: api.MaxOffset}} {
				check(t, "In behind End", o.In(e), api.ErrState)
			}
			if o.Seen(1000) || string(o.Save()) != before || len(o.Out()) > 0 {
				t.Errorf("%+v: what comes behind End changes something", c)
			}
		}
	}
}

// P17.1: errors in their order, each of which changes nothing.
func TestErrorsOfIn(t *testing.T) {
	c := with(tumbling(10), 5, 0, 2)
	c.Cut = 10
	o := newZero(t, c)
	for i, part := range []int{0, 1, 0} {
		check(t, "In", o.In(api.Event{Offset: uint64(12 + i), Part: part, Time: 100, Key: "k", Val: 1}), api.OK)
	}
	before := string(o.Save())
	for _, x := range []struct {
		e    api.Event
		want api.Errno
	}{
		{api.Event{Offset: 20, Part: 2}, api.ErrForm},
		{api.Event{Offset: 20, Part: -1}, api.ErrForm},
		{api.Event{Offset: 20, Part: math.MaxInt}, api.ErrForm},
		{api.Event{Offset: 20, Time: api.MaxTime + 1}, api.ErrForm},
		{api.Event{Offset: 20, Time: -api.MaxTime - 1}, api.ErrForm},
		{api.Event{Offset: 20, Time: math.MinInt64}, api.ErrForm},
		{api.Event{Offset: 20, Time: math.MaxInt64}, api.ErrForm},
		{api.Event{Offset: 20, Key: longest + "k"}, api.ErrForm},
		{api.Event{Offset: api.MaxOffset}, api.ErrForm},
		{api.Event{Offset: math.MaxUint64}, api.ErrForm},
		{api.Event{Offset: 9, Part: 2}, api.ErrForm},
		{api.Event{Offset: 12, Part: 2}, api.ErrForm},
		{api.Event{Offset: 0}, api.ErrStale},
		{api.Event{Offset: 9, Time: api.MaxTime, Key: longest, Val: math.NaN()}, api.ErrStale},
		{api.Event{Offset: 12, Part: 0, Time: 100, Key: "k", Val: 1}, api.ErrTwice},
		{api.Event{Offset: 12, Part: 1, Time: 500, Key: "other", Val: 2}, api.ErrTwice},
		{api.Event{Offset: 13, Time: -api.MaxTime}, api.ErrTwice},
		{api.Event{Offset: 14, Part: 1}, api.ErrTwice},
	} {
		for range 2 {
			check(t, fmt.Sprintf("%+v", x.e), o.In(x.e), x.want)
		}
		if string(o.Save()) != before || len(o.Out()) > 0 || o.Seen(x.e.Offset) != (x.want == api.ErrTwice || x.e.Offset == 12) {
			t.Errorf("%+v changes something", x.e)
		}
	}
	check(t, "In at Cut", o.In(api.Event{Offset: 10}), api.OK)
	check(t, "In at Cut again", o.In(api.Event{Offset: 10}), api.ErrTwice)
	check(t, "In at the last offset", o.In(api.Event{Offset: api.MaxOffset - 1}), api.OK)
	if o.Late() != 2 {
		t.Errorf("%d late", o.Late())
	}
	check(t, "End", o.End(), api.OK)
	for _, e := range []api.Event{{Offset: 20, Part: 2}, {Offset: 9}, {Offset: 12}, {Offset: 30}} {
		check(t, "In behind End", o.In(e), api.ErrState)
	}
}

// A nil Operator.
func TestNil(t *testing.T) {
	var o *stream.Operator
	for _, e := range []api.Event{{}, {Part: -1}, {Offset: math.MaxUint64}} {
		check(t, "In", o.In(e), api.ErrNone)
	}
	check(t, "End", o.End(), api.ErrNone)
	check(t, "End", o.End(), api.ErrNone)
	mark, ok := o.Mark()
	if len(o.Out()) > 0 || mark != 0 || ok || o.Late() != 0 || o.Ended() || o.Config() != (api.Config{}) || o.Open() != 0 || o.Seen(0) || len(o.Save()) > 0 {
		t.Error("a nil Operator tells something")
	}
}

// P1: zero values don't panic.
func TestZeroValue(t *testing.T) {
	var o stream.Operator
	o.Seen(0)
	o.In(api.Event{})
	o.In(api.Event{Offset: 1, Time: 7, Key: "k"})
	o.Out()
	o.Mark()
	o.Open()
	o.Config()
	stream.Load(o.Save())
	o.End()
	o.End()
}

// P17.1: values of all kinds, more of them in one pane each time, told and taken back to the last bit.
func TestValues(t *testing.T) {
	for _, c := range []api.Config{with(tumbling(10), -1, 0, 1), with(sliding(10, 5), -1, 0, 1), with(session(10), -1, 0, 1)} {
		r := rand.New(rand.NewPCG(17, 4))
		o, m := newBoth(t, c, nil)
		for i := range 200 {
			e := api.Event{Offset: uint64(i), Time: 3, Key: "k", Val: vals[r.IntN(len(vals)-i%5)]}
			if i == 0 {
				e.Time = 100
			}
			check(t, e, o.In(e), m.in(e))
			checkOut(t, fmt.Sprintf("%+v, %+v", c, e), o, m)
			if i%7 == 0 {
				o = loaded(t, o)
			}
		}
	}
}

// P2: what Out answers may be written over.
func TestOutIsNotKept(t *testing.T) {
	r := rand.New(rand.NewPCG(17, 5))
	for range 40 {
		c := anyConfig(r)
		log := someLog(r, 80, c.Parts)
		o, m := newBoth(t, c, log[:30])
		for _, e := range someOrder(r, log[30:]) {
			check(t, e, o.In(e), m.in(e))
			l := o.Out()
			if !sameChanges(l, m.out) {
				t.Fatalf("Out = %s\nnot %s", briefly(l), briefly(m.out))
			}
			m.out = nil
			l = l[:cap(l)]
			for i := range l {
				l[i] = api.Change{Put: true, Rev: 99, P: api.Pane{Key: "written over"}}
			}
		}
		check(t, "End", o.End(), m.end())
		checkOut(t, "End", o, m)
	}
}
