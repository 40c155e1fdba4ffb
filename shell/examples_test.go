package shell_test

import (
	"fmt"
	"slices"
	"testing"

	"headrace/api"
	"headrace/batch"
	"headrace/column"
	"headrace/commit"
	"headrace/exact"
	"headrace/files"
	"headrace/page"
	"headrace/real"
	"headrace/stream"
	"headrace/whole"
	"headrace/window"
)

// The ten examples of the whole, in the order in which the document tells them.

func TestExample1(t *testing.T) {
	if neg, m, s, ok := real.Split(1); neg || m != 1<<52 || s != 1022 || !ok {
		t.Errorf("Split(1) = %v, %d, %d, %v", neg, m, s, ok)
	}
}

func TestExample2(t *testing.T) {
	var sum exact.Sum
	if x, over := sum.Add(1e300).Add(1).Add(-1e300).Value(); x != 1 || over {
		t.Errorf("%v, %v", x, over)
	}
}

func TestExample3(t *testing.T) {
	if p := column.Ints([]int64{7, 7, 7}); !slices.Equal(p, []byte{2, 3, 0x0e, 2}) {
		t.Errorf("%x", p)
	}
}

func TestExample4(t *testing.T) {
	if n := page.Sum([]byte("123456789")); n != 0xcbf43926 {
		t.Errorf("%x", n)
	}
}

func TestExample5(t *testing.T) {
	s, e := files.New(100)
	check(t, "New", e, api.OK)
	check(t, "Append", s.Append("a", []byte("xy")), api.OK)
	check(t, "Sync", s.Sync("a"), api.OK)
	check(t, "Append", s.Append("a", []byte("zw")), api.OK)
	check(t, "Restart", s.Restart([]int{1}), api.OK)
	if p, e := s.Read("a"); string(p) != "xyz" || e != api.OK {
		t.Errorf("%q, error %d", p, e)
	}
}

func TestExample6(t *testing.T) {
	l := window.Of(api.Config{Kind: api.Sliding, Size: 10, Step: 4, Parts: 1}, 9)
	if !slices.Equal(l, []api.Window{{Start: 0, End: 10}, {Start: 4, End: 14}, {Start: 8, End: 18}}) {
		t.Errorf("%v", l)
	}
}

func TestExample7(t *testing.T) {
	c := api.Config{Kind: api.Session, Size: 5, Parts: 1}
	var l []api.Event
	for i, time := range []int64{1, 4, 8, 20} {
		l = append(l, api.Event{Offset: uint64(i), Time: time, Key: "a"})
	}
	panes, groups := whole.Panes(c, l), whole.Groups(c, l)
	if len(panes) != 2 || panes[0].W != (api.Window{Start: 1, End: 13}) || panes[1].W != (api.Window{Start: 20, End: 25}) || panes[0].A.Count != 3 || len(groups) != 2 || groups[0].W != panes[0].W {
		t.Errorf("%v", panes)
	}
}

func TestExample8(t *testing.T) {
	o, e := stream.New(api.Config{Size: 10, Parts: 1}, batch.Boot{})
	check(t, "New", e, api.OK)
	var got []string
	for i, time := range []int64{3, 12, 25, 7} {
		check(t, time, o.In(api.Event{Offset: uint64(i), Time: time, Key: "a"}), api.OK)
		for _, x := range o.Out() {
			got = append(got, fmt.Sprint(time, x.Put, x.Rev, x.P.W))
		}
	}
	if want := []string{"12 true 0 {0 10}", "25 true 0 {10 20}"}; !slices.Equal(got, want) || o.Late() != 1 {
		t.Errorf("%q, %d late", got, o.Late())
	}
}

func TestExample9(t *testing.T) {
	s, _ := files.New(1000)
	x := api.Change{Put: true, P: api.Pane{Key: "x", W: api.Window{End: 10}}}
	y := api.Change{Put: true, P: api.Pane{Key: "y", W: api.Window{End: 10}}}
	check(t, "Put", commit.Put(s, 1, []byte("a"), []api.Change{x}), api.OK)
	check(t, "Put", commit.Put(s, 2, []byte("b"), []api.Change{y}), api.OK)
	n, state, l, e := commit.Recover(s)
	if n != 2 || string(state) != "b" || !slices.Equal(l, []api.Change{x, y}) || e != api.OK {
		t.Errorf("%d, %q, %v, error %d", n, state, l, e)
	}
}

func TestExample10(t *testing.T) {
	checkRun(t, "tumbling 10 0 0 0 1 0\nemit 0 3 a 1.5\nopen\nin 0\nend\ncommit\nview", "ok", "ok", "ok", "ok", "ok", `"a" [0, 10) 1 1.5 1.5 1.5`)
}
