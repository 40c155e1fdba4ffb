package shell_test

import (
	"fmt"
	"math/rand/v2"
	"strings"
	"testing"

	"headrace/api"
	"headrace/shell"
	"headrace/world"
)

// checkLine looks what a line comes to.
func checkLine(t testing.TB, d *shell.Desk, line, want string) {
	t.Helper()
	if got := d.Line(line); got != want {
		t.Fatalf("%q: %q, not %q", line, got, want)
	}
}

// checkRefused looks that a line comes to an error, and that nothing that the world tells has changed.
func checkRefused(t testing.TB, d *shell.Desk, line, want string) {
	t.Helper()
	before, had := told(t, d.World()), d.World().Engine()
	checkLine(t, d, line, want)
	if after := told(t, d.World()); after != before || d.World().Engine() != had {
		t.Fatalf("%q: it tells %s\nnot %s", line, after, before)
	}
}

// busy is a desk whose log, archive and engine have something, and where each kind of line could be done.
func busy(t testing.TB) *shell.Desk {
	t.Helper()
	d := newDesk(t, "tumbling 10 0 -1 0 2 2")
	lines(t, d, "emit 0 3 a 1.5", "emit 1 4 b 2", "emit 0 25 a -1", "emit 1 31 b 8", "emit 0 2 a 1e+06", "emit 1 5 c 7", "seal 1", "seal 1", "open", "in 2", "in 3")
	return d
}

// P21.3: the chapter's example.
func TestExample(t *testing.T) {
	d := newDesk(t, settings)
	lines(t, d, "emit 0 3 a 1.5", "open", "in 0", "end", "commit")
	checkLine(t, d, "view", `"a" [0, 10) 1 1.5 1.5 1.5`)
}

// P21.3: each kind of line is its step: another world to which that step happens tells the same.
func TestEachLine(t *testing.T) {
	d := newDesk(t, "tumbling 10 0 -1 0 2 2")
	w := newWorld(t, api.Config{Size: 10, Late: -1, Parts: 2, Cut: 2}, thePlan)
	for _, v := range []struct {
		line string
		x    world.Step
	}{
		{"emit 0 3 a 1.5", world.Step{Kind: world.Emit, E: api.Event{Time: 3, Key: "a", Val: 1.5}}},
		{"emit 1 -4 b -2", world.Step{Kind: world.Emit, E: api.Event{Part: 1, Time: -4, Key: "b", Val: -2}}},
		{"emit 1 11  1e+06", world.Step{Kind: world.Emit, E: api.Event{Part: 1, Time: 11, Val: 1e6}}},
		{"emit 0 40 a 0.25", world.Step{Kind: world.Emit, E: api.Event{Time: 40, Key: "a", Val: 0.25}}},
		{"emit 1 50 b 7", world.Step{Kind: world.Emit, E: api.Event{Part: 1, Time: 50, Key: "b", Val: 7}}},
		{"seal 1", world.Step{Kind: world.Seal, N: 1}},
		{"seal 2", world.Step{Kind: world.Seal, N: 2}},
		{"compact 0", world.Step{Kind: world.Compact}},
		{"seal 1", world.Step{Kind: world.Seal, N: 1}},
		{"seal 1", world.Step{Kind: world.Seal, N: 1}},
		{"compact 1", world.Step{Kind: world.Compact, N: 1}},
		{"open", world.Step{Kind: world.Open}},
		{"in 3", world.Step{Kind: world.Deliver, N: 3}},
		{"in 4", world.Step{Kind: world.Deliver, N: 4}},
		{"commit", world.Step{Kind: world.Commit}},
		{"in 2", world.Step{Kind: world.Deliver, N: 2}},
		{"arm 7", world.Step{Kind: world.Arm, N: 7}},
		{"arm 0", world.Step{Kind: world.Arm}},
		{"end", world.Step{Kind: world.End}},
		{"commit", world.Step{Kind: world.Commit}},
		{"restart", world.Step{Kind: world.Restart}},
		{"open", world.Step{Kind: world.Open}},
	} {
		before := told(t, w)
		checkLine(t, d, v.line, "ok")
		check(t, v.line, w.Do(v.x), api.OK)
		checkSame(t, v.line, d.World(), w)
		if told(t, w) == before && v.x.Kind != world.Arm {
			t.Errorf("%q: nothing has changed", v.line)
		}
	}
	if l := d.World().Engine().Ledger().View(); len(l) != 5 {
		t.Errorf("view %v", l)
	}
}

// P21.3: arm n: the power goes off in the n-th operation.
func TestArm(t *testing.T) {
	for n := 1; n < 8; n++ {
		d := busy(t)
		had := d.World().Store().Ops()
		lines(t, d, fmt.Sprint("arm ", n))
		for d.World().Store().On() {
			d.Line("commit")
		}
		if ops := d.World().Store().Ops() - had; ops != n {
			t.Errorf("armed by %d: %d operations", n, ops)
		}
		d = busy(t)
		lines(t, d, fmt.Sprint("arm ", n), "arm 0", "commit", "commit")
	}
}

// P21.3: restart keeps nothing that isn't durable.
func TestRestart(t *testing.T) {
	d := busy(t)
	s := d.World().Store()
	check(t, "Append", s.Append("a", []byte("xy")), api.OK)
	check(t, "Sync", s.Sync("a"), api.OK)
	check(t, "Append", s.Append("a", []byte("zw")), api.OK)
	check(t, "Append", s.Append("0", []byte("uv")), api.OK)
	lines(t, d, "arm 1", "restart")
	a, _ := s.Read("a")
	first, _ := s.Read("0")
	if string(a) != "xy" || len(first) > 0 || d.World().Engine() != nil || !s.On() || d.World().Store() != s {
		t.Errorf("%q, %q", a, first)
	}
	checkRefused(t, d, "commit", "error 5")
	lines(t, d, "open", "commit")
}

// notLines are no lines, but for New's and view.
var notLines = []string{
	"", " ", "  ", "x", "help", "ok", "error 13", "emits", "emi", "Emit", "EMIT 0 3 a 1.5", "OPEN", "Open", "opens", "ope", "close", "seals 1", "sealing 1", "views", "vie", "View", "restarts", "commits", "ends", "arms 1", "inn 1", "i 1", "deliver 0", "spoil 0 0", settings, "tumbling", "0", "1.5", "\x00", "open\x00", "\xffopen",
	"emit", "emit ", "emit 0", "emit 0 3", "emit 0 3 a", "emit 0 3 a ", "emit 0 3 1.5", "emit 0 3  ", "emit 0 3 a 1.5 ", "emit 0 3 a 1.5 x", "emit 0 3 a 1.5 1.5", "emit 0 3 a b 1.5", "emit 0 3 a  1.5", "emit 0 3   1.5", "emit 0  3 a 1.5", "emit  0 3 a 1.5", " emit 0 3 a 1.5", "emit 0 3 a 1.5\r", "emit 0 3 a 1.5\n", "\temit 0 3 a 1.5", "emit\t0 3 a 1.5", "emit 0\t3 a 1.5", "emit 0 3\ta 1.5", "emit 0 3 a\t1.5", "emit0 3 a 1.5", "emit 0 3 a,1.5", "emit a 3 0 1.5", "emit 0 a 3 1.5", "emit 0 3 1.5 a", "emit 3 a 1.5",
	"seal", "seal ", "seal  ", "seal x", "seal 1 ", "seal  1", " seal 1", "seal 1 1", "seal 1 x", "seal\t1", "seal1", "seal 1\n", "seal 1\r", "seal 1.0", "seal 1e0",
	"compact", "compact ", "compact  0", "compact 0 ", " compact 0", "compact 0 1", "compact x", "compact0", "compact 0.0",
	"in", "in ", "in  2", "in 2 ", " in 2", "in 2 3", "in x", "in2", "in 2.0", "in 0x2",
	"arm", "arm ", "arm  1", "arm 1 ", " arm 1", "arm 1 2", "arm x", "arm1", "arm 1.0",
	"open ", " open", "open 0", "open x", "open open", "open\n", "open\r", "open\t", "op en", "o pen",
	"end ", " end", "end 0", "end x", "end\n", "en d", "commit ", " commit", "commit 1", "commit x", "commit\n", "restart ", " restart", "restart 0", "restart 1", "restart -1", "restart x", "restart\n", "view ", " view", "view 1", "view a", "view\n", "view view",
	"open;open", "emit 0 3 a 1.5\nopen", "open\nopen", "\nopen", "end\ncommit",
}

// P21.3: what is no line is told by ErrText, whether there is an engine, and whether the power is on, and changes nothing.
func TestLineText(t *testing.T) {
	at := map[string]*shell.Desk{"new": newDesk(t, settings), "busy": busy(t), "fallen": busy(t), "without form": newDesk(t, "tumbling 0 0 0 0 0 0")}
	lines(t, at["fallen"], "arm 1")
	checkLine(t, at["fallen"], "commit", "error 9")
	for what, d := range at {
		before, had := told(t, d.World()), d.World().Engine()
		for _, line := range notLines {
			if _, ok := stepOf(line); ok {
				t.Fatalf("%q is a line", line)
			}
			if got := d.Line(line); got != "error 13" {
				t.Errorf("%s: %q: %s", what, line, got)
			}
		}
		if told(t, d.World()) != before || d.World().Engine() != had {
			t.Errorf("%s: what it tells has changed", what)
		}
	}
}

// P21.3: part and n within 32 bits, time within 64, of digits alone.
func TestLineNumbers(t *testing.T) {
	d := busy(t)
	beyond := []string{"9223372036854775808", "-9223372036854775809", "18446744073709551616", "-99999999999999999999999999", "1" + strings.Repeat("0", 400)}
	beyond32 := []string{"2147483648", "-2147483649", "4294967296", "4294967298", "-4294967294", "9223372036854775807", "-9223372036854775808"}
	for _, form := range []string{"emit %s 3 a 1.5", "seal %s", "compact %s", "in %s", "arm %s", "emit 0 %s a 1.5"} {
		l := append(append([]string{}, notNumbers...), beyond...)
		if !strings.HasPrefix(form, "emit 0") {
			l = append(l, beyond32...)
		}
		for _, word := range l {
			checkLine(t, d, fmt.Sprintf(form, word), "error 13")
		}
		// At these ends it is a line, whose step tells what it comes to.
		for word, want := range map[string]string{"2147483647": "error 1", "-2147483648": "error 1", "-1": "error 1", "1000000": "error 1"} {
			if form == "arm %s" && word[0] != '-' {
				want = "ok"
			}
			if form == "emit %s 3 a 1.5" {
				want = "error 3"
			}
			if form != "emit 0 %s a 1.5" {
				checkRefused(t, d, fmt.Sprintf(form, word), want)
			}
		}
	}
	for word, want := range map[string]string{
		"9223372036854775807": "error 3", "-9223372036854775808": "error 3", "1099511627777": "error 3", "-1099511627777": "error 3", "1099511627776": "ok", "-1099511627776": "ok", "0": "ok", "-1": "ok", "2147483648": "ok", "-2147483649": "ok",
	} {
		checkLine(t, d, "emit 0 "+word+" a 1.5", want)
		l := d.World().Log()
		if e := l[len(l)-1]; want == "ok" && fmt.Sprint(e.Time) != word {
			t.Errorf("time %s: %+v", word, e)
		}
	}
	d = newDesk(t, "tumbling 10 0 0 0 8 0")
	for part := range 8 {
		checkLine(t, d, fmt.Sprintf("emit %d 0 a 1", part), "ok")
		if e := d.World().Log()[part]; e.Part != part || e.Offset != uint64(part) {
			t.Errorf("part %d: %+v", part, e)
		}
	}
	checkRefused(t, d, "emit 8 0 a 1", "error 3")
	checkRefused(t, d, "emit -1 0 a 1", "error 3")
}

// P21.3: keys of every byte but blanks, which may be empty.
func TestKeys(t *testing.T) {
	d := newDesk(t, settings)
	emitted := 0
	checkKey := func(key string) {
		t.Helper()
		checkLine(t, d, "emit 0 3 "+key+" 1.5", "ok")
		emitted++
		l := d.World().Log()
		if len(l) != emitted || l[emitted-1] != (api.Event{Offset: uint64(emitted - 1), Time: 3, Key: key, Val: 1.5}) {
			t.Fatalf("key %q: %+v", key, l[len(l)-1])
		}
	}
	for b := range 256 {
		if b == ' ' {
			continue
		}
		checkKey(string([]byte{byte(b)}))
		checkKey(string([]byte{byte(b), byte(b)}))
		checkKey(string([]byte{'a', byte(b), 'b'}))
	}
	for _, key := range []string{"", "1.5", "emit", "\"", "\u00a0", "\u3000", "世界", "a\nb", "\n", "\t", "\x00", strings.Repeat("k", api.MaxKey), strings.Repeat("\xff", api.MaxKey)} {
		checkKey(key)
	}
	checkRefused(t, d, "emit 0 3 "+strings.Repeat("k", api.MaxKey+1)+" 1.5", "error 3")
	checkRefused(t, d, "emit 0 3 "+strings.Repeat("k", 100000)+" 1.5", "error 3")
	checkRefused(t, d, "emit 0 3 a b 1.5", "error 13")
}

// P21.3: values as Real would write them.
func TestValues(t *testing.T) {
	d := newDesk(t, settings)
	for i, v := range reals {
		checkLine(t, d, "emit 0 3 a "+v.text, "ok")
		l := d.World().Log()
		got := l[len(l)-1].Val
		if len(l) != i+1 || shell.Real(got) != v.text || v.x == v.x && got != v.x {
			t.Fatalf("value %s: %b", v.text, got)
		}
	}
}

// notReals are words that Real doesn't write.
var notReals = []string{
	"", "1.50", "1.0", "1.", ".5", "0.", "00", "01", "01.5", "-01", "+1", "+0", "+1.5", "--1", "-", "+", ".", "1e0", "1e1", "1e5", "1e+05", "1e6", "1E+06", "1e+6", "1e+006", "1.0e+06", "10e+05", "1000000", "12345678", "0.00001", "1e-5", "1e-4", "1e-04", "0.1e-04", "100000.0", "99999e1",
	"0x1", "0x1p0", "0x1p+0", "0X1P-2", "0b1", "0o7", "1_000", "1,5", "1f", "1d", "inf", "Inf", "-inf", "+inf", "INF", "infinity", "Infinity", "+Infinity", "-Infinity", "nan", "NAN", "Nan", "+NaN", "-NaN", "NaN(1)", "-0.0", "0.0", "0e0", "-0e0", "0e+00", "00.5",
	"1e+309", "1e309", "-1e+400", "1.8e+308", "2e+308", "1e-400", "4e-324", "4.9e-324", "4.94e-324", "5e-325", "1.7976931348623158e+308", "0.1000000000000000055511151231257827", "0.30000000000000001", "9.007199254740993e+15", "1e+", "e1", "x", "one", "1.5x", "1.5\t", "\t1.5", "1.5\x00", "\u0661", "１", "∞", strings.Repeat("1", 400), "0." + strings.Repeat("0", 400) + "1",
}

// P21.3: values as Real wouldn't write them.
func TestOtherValues(t *testing.T) {
	d := busy(t)
	for _, word := range notReals {
		checkRefused(t, d, "emit 0 3 a "+word, "error 13")
	}
}

// P21.3: where several faults are there at once, ErrText goes ahead of the step's error.
func TestSeveral(t *testing.T) {
	d := newDesk(t, "tumbling 10 0 0 0 1 5")
	long := strings.Repeat("k", api.MaxKey+1)
	for _, line := range []string{
		"emit 9 3 a 1.50", "emit 0 9223372036854775807 a x", "emit 9 9223372036854775808 a 1.5", "emit 2147483648 3 a 1.5", "emit 0 3 " + long + " nan", "emit -1 3 " + long + " 1 1", "emit 9 3 a", "seal -1 0", "seal 2147483648", "in 99999999999", "in -1 ", "arm -2147483649", "compact +9", "open ", "commit x",
	} {
		checkRefused(t, d, line, "error 13")
	}
	checkRefused(t, d, "emit 9 3 "+long+" 1.5", "error 3")
	checkRefused(t, d, "in 0", "error 1")
	lines(t, d, "emit 0 3 a 1")
	checkRefused(t, d, "in 1", "error 1")
	checkRefused(t, d, "in 0", "error 5")
}

// P21.3: each error that a step may come to.
func TestErrors(t *testing.T) {
	d := newDesk(t, "tumbling 10 0 0 0 1 2")
	checkRefused(t, d, "seal 1", "error 1")
	lines(t, d, "emit 0 1 a 1", "emit 0 2 a 1", "emit 0 3 a 1", "emit 0 90 a 1", "emit 0 4 a 1")
	checkRefused(t, d, "open", "error 8")
	for _, line := range []string{"end", "commit", "in 3"} {
		checkRefused(t, d, line, "error 5")
	}
	for _, line := range []string{"seal 0", "seal -1", "seal 6", "compact 0", "compact -1", "in 5", "in -1", "arm -1"} {
		checkRefused(t, d, line, "error 1")
	}
	lines(t, d, "seal 2", "seal 1", "open")
	checkRefused(t, d, "compact 1", "error 1")
	checkRefused(t, d, "in 0", "error 12")
	checkRefused(t, d, "in 1", "error 12")
	lines(t, d, "in 3", "in 4")
	checkRefused(t, d, "in 3", "error 6")
	checkRefused(t, d, "in 4", "error 6")
	lines(t, d, "commit", "end")
	checkRefused(t, d, "in 2", "error 11")
	checkRefused(t, d, "in 0", "error 11")
	checkRefused(t, d, "end", "error 11")
	s := d.World().Store()
	check(t, "Append", s.Append("full", make([]byte, theRoom-s.Used())), api.OK)
	checkLine(t, d, "commit", "error 10")
	checkLine(t, d, "seal 1", "error 10")
	check(t, "Delete", s.Delete("full"), api.OK)
	lines(t, d, "commit")
	for i, name := range s.List() {
		if name == "cat" || name == "man" {
			check(t, name, d.World().Do(world.Step{Kind: world.Spoil, N: i, K: 45}), api.OK)
		}
	}
	for _, line := range []string{"seal 1", "seal 99", "compact 0", "commit"} {
		checkRefused(t, d, line, "error 4")
	}
	checkLine(t, d, "open", "error 4")
	checkRefused(t, d, "commit", "error 5")
}

// P21.3: ErrLong: more events than a segment may have; more segments than a catalog may.
func TestErrLong(t *testing.T) {
	d := newDesk(t, settings)
	for i := range api.MaxSeal + api.MaxFiles/2 + 1 {
		lines(t, d, fmt.Sprintf("emit 0 %d a 1", i))
	}
	checkRefused(t, d, fmt.Sprint("seal ", api.MaxSeal+1), "error 2")
	lines(t, d, fmt.Sprint("seal ", api.MaxSeal))
	for range api.MaxFiles/2 - 1 {
		lines(t, d, "seal 1")
	}
	checkRefused(t, d, "seal 1", "error 2")
	checkRefused(t, d, "compact 0", "error 2")
	lines(t, d, "compact 1", "seal 1")
}

// P21.3: the errors of a store that others have written to: its commits are of another config, or gone, or not in order.
func TestOtherStores(t *testing.T) {
	from := busy(t)
	lines(t, from, "commit", "emit 0 99 a 1", "emit 1 99 a 1", "in 6", "in 7", "commit")
	carry := func(settings string, names map[string]string) *shell.Desk {
		d := newDesk(t, settings)
		all := filesOf(t, from.World().Store())
		for to, name := range names {
			check(t, to, d.World().Store().Append(to, []byte(all[name])), api.OK)
		}
		return d
	}
	all := map[string]string{"man": "man", "out.1": "out.1", "out.2": "out.2", "out.3": "out.3", "state.3": "state.3"}
	lines(t, carry("tumbling 10 0 -1 0 2 2", all), "open", "end", "commit")
	checkLine(t, carry("tumbling 10 0 -1 1 2 2", all), "open", "error 11")
	all["out.2"] = "out.3"
	checkLine(t, carry("tumbling 10 0 -1 0 2 2", all), "open", "error 3")
	delete(all, "out.2")
	checkLine(t, carry("tumbling 10 0 -1 0 2 2", all), "open", "error 3")
	check(t, "Delete", from.World().Store().Delete("man"), api.OK)
	checkLine(t, from, "commit", "error 7")
	check(t, "Delete", from.World().Store().Delete("seg.1.2"), api.OK)
	checkLine(t, from, "compact 0", "error 5")
}

// P21.3: where there is no engine: ahead of open, behind an open that told an error, behind a restart; and behind a fall.
func TestWithoutEngine(t *testing.T) {
	d := newDesk(t, "tumbling 10 0 -1 0 1 1")
	none := func() {
		t.Helper()
		for _, line := range []string{"in 0", "in 1", "end", "commit"} {
			checkRefused(t, d, line, "error 5")
		}
		checkRefused(t, d, "in 9", "error 1")
		checkRefused(t, d, "view", "")
	}
	lines(t, d, "emit 0 3 a 1.5", "emit 0 14 a 2.5")
	none()
	checkLine(t, d, "open", "error 8")
	none()
	lines(t, d, "seal 1", "open", "in 1", "commit")
	view := d.Line("view")
	if view != `"a" [0, 10) 1 1.5 1.5 1.5` {
		t.Fatalf("view %s", view)
	}
	lines(t, d, "restart")
	none()
	lines(t, d, "open")
	checkLine(t, d, "view", view)
	lines(t, d, "arm 1")
	checkLine(t, d, "commit", "error 9")
	for _, line := range []string{"in 1", "in 0", "end", "commit", "seal 1", "seal 0", "compact 0"} {
		checkRefused(t, d, line, "error 9")
	}
	checkRefused(t, d, "in 2", "error 1")
	checkRefused(t, d, "view", view)
	checkLine(t, d, "emit 0 15 a 3.5", "ok")
	checkLine(t, d, "arm 3", "ok")
	checkLine(t, d, "open", "error 9")
	none()
	lines(t, d, "restart")
	none()
	lines(t, d, "open", "in 2", "end")
	checkRefused(t, d, "in 1", "error 11")
	lines(t, d, "commit")
	checkLine(t, d, "view", view+"\n"+`"a" [10, 20) 2 6 2.5 3.5`)
}

// P21.3: view: where nothing is committed, of one pane and of many; of what is committed alone.
func TestView(t *testing.T) {
	d := newDesk(t, "tumbling 10 0 -1 0 1 0")
	checkRefused(t, d, "view", "")
	lines(t, d, "open")
	checkRefused(t, d, "view", "")
	lines(t, d, "emit 0 3 b 1.5", "emit 0 -4 b -2", "emit 0 12 a 1e+06", "emit 0 13  NaN", "emit 0 11 \"\xff 1.7976931348623157e+308", "emit 0 12 \"\xff 1.7976931348623157e+308", "emit 0 20 b -0", "in 0", "in 2")
	checkRefused(t, d, "view", "")
	lines(t, d, "commit")
	checkRefused(t, d, "view", `"b" [0, 10) 1 1.5 1.5 1.5`)
	lines(t, d, "in 1", "in 3", "in 4", "in 5", "in 6", "commit", "end")
	view := []string{
		`"" [10, 20) 1 NaN NaN NaN`,
		`"\"\xff" [10, 20) 2 +Inf over 1.7976931348623157e+308 1.7976931348623157e+308`,
		`"a" [10, 20) 1 1e+06 1e+06 1e+06`,
		`"b" [-10, 0) 1 -2 -2 -2`,
		`"b" [0, 10) 1 1.5 1.5 1.5`,
	}
	checkRefused(t, d, "view", strings.Join(view, "\n"))
	lines(t, d, "commit")
	checkRefused(t, d, "view", strings.Join(append(view, `"b" [20, 30) 1 -0 -0 -0`), "\n"))
}

// P21.3: of a nil desk.
func TestNil(t *testing.T) {
	var d *shell.Desk
	for _, line := range append([]string{"view", "open", "emit 0 3 a 1.5", "seal 1", "compact 0", "in 0", "end", "commit", "arm 1", "restart", settings}, notLines...) {
		if got := d.Line(line); got != "" {
			t.Errorf("%q: %q", line, got)
		}
	}
	if d.World() != nil {
		t.Error("it has a world")
	}
}

// anyLine is a line of any kind, most often one that can be done.
func anyLine(r *rand.Rand, w *world.World, c api.Config) string {
	n := len(w.Log())
	of := func(n int) int {
		if r.IntN(12) == 0 {
			return []int{-1, n, n + 1, n + 100, 2147483647, 2147483648, -2147483649}[r.IntN(7)]
		}
		return r.IntN(max(n, 1))
	}
	switch r.IntN(30) {
	case 0, 1, 2, 3, 4, 5:
		key := []string{"", "a", "ab", "b", strings.Repeat("\xff", 32), "\n", "\"x\""}[r.IntN(7)]
		return fmt.Sprintf("emit %d %d %s %s", of(c.Parts), 2*n+r.IntN(20)-5, key, reals[r.IntN(len(reals))].text)
	case 6, 7:
		return fmt.Sprint("seal ", 1+of(8))
	case 8:
		return fmt.Sprint("compact ", of(3))
	case 9, 10:
		return "open"
	case 11, 12:
		return "view"
	case 13, 14, 15, 16, 17, 18, 19, 20:
		return fmt.Sprint("in ", of(n))
	case 21:
		return fmt.Sprint("in ", n-1)
	case 22:
		return []string{"end", "commit", "commit", "open", "view"}[r.IntN(5)]
	case 23, 24, 25:
		return "commit"
	case 26:
		return fmt.Sprint("arm ", of(25))
	case 27:
		if w.Store().On() && r.IntN(2) > 0 {
			return "view"
		}
		return "restart"
	case 28:
		return notLines[r.IntN(len(notLines))]
	}
	l := []string{"emit", "0", "3", "a", "1.5", "in", "-1", "", "x", "open"}
	words := []string{"emit", "seal", "compact", "in", "arm", "open"}[r.IntN(6)]
	for range r.IntN(6) {
		words += " " + l[r.IntN(len(l))]
	}
	return words
}

// anySettings are settings of small sizes, of each kind.
func anySettings(r *rand.Rand) string {
	size := 1 + r.IntN(16)
	kind, step := []string{"tumbling", "session"}[r.IntN(2)], 0
	if r.IntN(3) == 0 {
		kind, step = "sliding", 1+r.IntN(size)
	}
	return fmt.Sprintf("%s %d %d %d %d %d %d", kind, size, step, []int{-1, 0, 1, r.IntN(20)}[r.IntN(4)], []int{0, 1, r.IntN(20)}[r.IntN(3)], 1+r.IntN(3), r.IntN(6))
}

// P21.3, P2: whatever lines there are, in whatever order, the answers and all that is told are what the steps come to at a world apart; file by file, byte by byte.
func TestAnyLines(t *testing.T) {
	count := map[string]int{}
	for seed := range uint64(150) {
		r := rand.New(rand.NewPCG(213, seed))
		line := anySettings(r)
		d, w := newDesk(t, line), newWorld(t, configOf(line), thePlan)
		for i := range 150 {
			line := anyLine(r, d.World(), configOf(line))
			want := answerOf(w, line)
			if got := d.Line(line); got != want {
				t.Fatalf("seed %d, line %d: %q: %q, not %q", seed, i, line, got, want)
			}
			word, _, _ := strings.Cut(line, " ")
			count[word+": "+want]++
			checkSame(t, fmt.Sprintf("seed %d, behind line %d: %q", seed, i, line), d.World(), w)
		}
	}
	for _, x := range []string{
		"emit: ok", "emit: error 3", "emit: error 13", "seal: ok", "seal: error 1", "seal: error 9", "seal: error 13", "compact: ok", "compact: error 1", "compact: error 9", "compact: error 13",
		"open: ok", "open: error 8", "open: error 9", "open: error 13", "in: ok", "in: error 1", "in: error 5", "in: error 6", "in: error 9", "in: error 11", "in: error 12", "in: error 13",
		"end: ok", "end: error 5", "end: error 11", "commit: ok", "commit: error 5", "commit: error 9", "arm: ok", "arm: error 1", "arm: error 13", "restart: ok", "view: ",
	} {
		if count[x] == 0 {
			t.Errorf("no line of %q", x)
		}
	}
}
