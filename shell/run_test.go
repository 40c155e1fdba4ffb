package shell_test

import (
	"fmt"
	"math/rand/v2"
	"slices"
	"strings"
	"testing"
	"unsafe"

	"headrace/api"
	"headrace/shell"
)

func checkRun(t testing.TB, text string, want ...string) {
	t.Helper()
	l, e := shell.Run(text)
	check(t, fmt.Sprintf("Run(%q)", text), e, api.OK)
	if !slices.Equal(l, want) {
		t.Fatalf("Run(%q) = %q, not %q", text, l, want)
	}
}

const (
	example = settings + "\nemit 0 3 a 1.5\nopen\nin 0\nend\ncommit\nview"
	itsView = `"a" [0, 10) 1 1.5 1.5 1.5`
)

// P21.3: Run of texts of one line and of many, with empty ones among them and at the end.
func TestRun(t *testing.T) {
	checkRun(t, example, "ok", "ok", "ok", "ok", "ok", itsView)
	checkRun(t, settings)
	checkRun(t, settings+"\n", "error 13")
	checkRun(t, settings+"\n\n", "error 13", "error 13")
	checkRun(t, settings+"\nview", "")
	checkRun(t, settings+"\nopen\n", "ok", "error 13")
	checkRun(t, settings+"\n\nopen\n\n\nview\n", "error 13", "ok", "error 13", "error 13", "", "error 13")
	checkRun(t, settings+"\nopen\r\nopen", "error 13", "ok")
	checkRun(t, settings+"\n"+settings, "error 13")
	checkRun(t, "session 5 0 -1 0 1 0\nemit 0 1 a 1\nemit 0 4 a 2\nemit 0 8  3\nopen\nin 2\nin 1\nin 0\nin 0\nend\ncommit\nview", "ok", "ok", "ok", "ok", "ok", "ok", "ok", "error 6", "ok", "ok", `"" [8, 13) 1 3 3 3`+"\n"+`"a" [1, 9) 2 3 1 2`)
}

// P21.3: Run of no settings, or bad ones: New's error, and no answers.
func TestRunErrors(t *testing.T) {
	for text, want := range map[string]api.Errno{
		"": api.ErrText, "\n": api.ErrText, "\n" + example: api.ErrText, "open": api.ErrText, "view\n": api.ErrText, " " + example: api.ErrText, settings + "\r\nopen": api.ErrText, settings + " \nopen": api.ErrText,
		"tumbling 10 0 0 0 1\n0\nopen": api.ErrText, "tumbling 10 0 0 0 1 -1\nopen\nview": api.ErrText, "tumbling 10 0 0 0 2147483648 0\nopen\nview": api.ErrArg, "tumbling 10 0 0 0 2147483648 0": api.ErrArg,
	} {
		if l, e := shell.Run(text); len(l) > 0 || e != want {
			t.Errorf("Run(%q): %q, error %d, not %d", text, l, e, want)
		}
	}
}

// P21.3: Run is New of the first line, and Line of each of the others.
func TestAnyRun(t *testing.T) {
	for seed := range uint64(40) {
		r := rand.New(rand.NewPCG(214, seed))
		first := anySettings(r)
		d := newDesk(t, first)
		text, want := first, []string(nil)
		for range 100 {
			line, _, _ := strings.Cut(anyLine(r, d.World(), configOf(first)), "\n")
			text += "\n" + line
			want = append(want, d.Line(line))
		}
		checkRun(t, text, want...)
	}
}

// P2: one script that happens to two worlds leaves the same files, byte by byte, and the same answers, whatever is asked between.
func TestSameAgain(t *testing.T) {
	for seed := range uint64(40) {
		r := rand.New(rand.NewPCG(215, seed))
		first := anySettings(r)
		a, b := newDesk(t, first), newDesk(t, first)
		for i := range 120 {
			line := anyLine(r, a.World(), configOf(first))
			// What is asked of one alone changes nothing.
			told(t, a.World())
			a.Line("view")
			a.Line("no line")
			if got, want := a.Line(line), b.Line(line); got != want {
				t.Fatalf("seed %d, line %d: %q: %q, not %q", seed, i, line, got, want)
			}
		}
		checkSame(t, seed, a.World(), b.World())
	}
}

// P2: two desks that go on by turns don't touch each other.
func TestTwoDesks(t *testing.T) {
	a, b := newDesk(t, settings), newDesk(t, settings)
	lines(t, a, "emit 0 3 a 1.5", "seal 1", "open")
	before := told(t, a.World())
	lines(t, b, "open", "arm 1")
	checkLine(t, b, "commit", "error 9")
	if told(t, a.World()) != before || len(b.World().Log()) > 0 {
		t.Error("one desk's lines happen to another's world")
	}
}

// Memory: what is answered may be written over; what is handed in, too.
func TestMemory(t *testing.T) {
	l, _ := shell.Run(example)
	again, _ := shell.Run(example)
	for i := range l[:cap(l)] {
		l[:cap(l)][i] = "written over"
	}
	if third, _ := shell.Run(example); !slices.Equal(again, third) || again[5] != itsView {
		t.Errorf("%q, %q", again, third)
	}
	// A caller's bytes, which it hands in as a text and writes over behind each call.
	room := make([]byte, 0, 200)
	of := func(text string) string {
		room = append(room[:0], text...)
		return unsafe.String(unsafe.SliceData(room), len(room))
	}
	over := func() {
		for i := range room[:cap(room)] {
			room[:cap(room)][i] = 'z'
		}
	}
	d, e := shell.New(of(settings))
	over()
	check(t, "New", e, api.OK)
	for _, line := range []string{"emit 0 3 key 1.5", "emit 0 4 other 2.5", "emit 0 33 key 1", "open", "in 0", "in 1", "in 2", "commit"} {
		if got := d.Line(of(line)); got != "ok" {
			t.Fatalf("%q: %s", line, got)
		}
		over()
	}
	view := d.Line(of("view"))
	over()
	if want := `"key" [0, 10) 1 1.5 1.5 1.5` + "\n" + `"other" [0, 10) 1 2.5 2.5 2.5`; view != want || d.World().Log()[0].Key != "key" {
		t.Errorf("view %s, not %s", view, want)
	}
	shown := shell.Show(api.Pane{Key: of("key")})
	over()
	if shown != `"key" [0, 0) 0 0 0 0` {
		t.Errorf("shown %s", shown)
	}
	answers, e := shell.Run(of(example))
	over()
	check(t, "Run", e, api.OK)
	if !slices.Equal(answers, again) {
		t.Errorf("%q", answers)
	}
	_, e = shell.New(of("other 10 0 0 0 1 0"))
	over()
	check(t, "New", e, api.ErrText)
	log := d.World().Log()
	for i := range log {
		log[i] = api.Event{Offset: 77, Key: "written over"}
	}
	if got := d.World().Log(); got[0].Key != "key" || got[2].Offset != 2 {
		t.Errorf("the log is %+v", got)
	}
}

// P1: lines and texts of great lengths end, and are refused.
func TestLong(t *testing.T) {
	d := newDesk(t, settings)
	for _, word := range []string{" ", "x", "9", "-", "\n", "emit ", "1e+", "open ", "\x00", "\xff"} {
		long := strings.Repeat(word, 1<<21/len(word))
		for _, line := range []string{long, "emit " + long, "emit 0 3 a " + long, "seal " + long, "in -" + long, "open" + long, "view" + long, long + "view"} {
			checkLine(t, d, line, "error 13")
		}
		if _, e := shell.New(settings + long); e != api.ErrText {
			t.Errorf("New of %q and so on: error %d", word, e)
		}
		if l, e := shell.Run(settings + "\n" + long); e != api.OK || slices.ContainsFunc(l, func(s string) bool { return s != "error 13" }) {
			if word != "open " {
				t.Errorf("Run of %q and so on: error %d", word, e)
			}
		}
	}
	checkLine(t, d, "emit 0 3 "+strings.Repeat("\n", 1<<20)+" 1.5", "error 3")
	if told(t, d.World()) != told(t, newDesk(t, settings).World()) {
		t.Error("what its world tells has changed")
	}
}

// FuzzLine: lines of all kinds, at a desk that is new, and at one that has something, come to what the chapter's words come to.
func FuzzLine(f *testing.F) {
	for _, line := range notLines {
		f.Add(line, line)
	}
	for _, line := range []string{"emit 0 3 a 1.5", "emit 0 3  -0", "emit 0 3 a NaN", "seal 1", "compact 0", "open", "in 4", "end", "commit", "arm 1", "restart", "view"} {
		f.Add(line, "commit")
	}
	f.Fuzz(func(t *testing.T, first, next string) {
		if len(first)+len(next) > 1000 {
			return
		}
		plain, other := newDesk(t, settings), busy(t)
		plainTwin, otherTwin := newDesk(t, settings).World(), busy(t).World()
		for _, line := range []string{first, next, "view", "restart", "open", first, next, "view"} {
			if got, want := plain.Line(line), answerOf(plainTwin, line); got != want {
				t.Fatalf("%q: %q, not %q", line, got, want)
			}
			if got, want := other.Line(line), answerOf(otherTwin, line); got != want {
				t.Fatalf("%q: %q, not %q", line, got, want)
			}
		}
		checkSame(t, first, plain.World(), plainTwin)
		checkSame(t, first, other.World(), otherTwin)
	})
}

// FuzzRun: texts of all kinds: New's error, or what each line comes to.
func FuzzRun(f *testing.F) {
	f.Add(example)
	f.Add("session 5 0 -1 2 2 3\nemit 0 1 a 1\nemit 1 4 a 2\nemit 0 8  3\nseal 2\nseal 1\ncompact 0\nopen\narm 3\ncommit\nrestart\nopen\nview")
	f.Add("sliding 9 3 0 0 1 0\n\n\nopen\nview\n")
	f.Add("")
	f.Fuzz(func(t *testing.T, text string) {
		if len(text) > 3000 {
			return
		}
		l, e := shell.Run(text)
		parts := strings.Split(text, "\n")
		check(t, text, e, errorOfSettings(parts[0]))
		if e != api.OK {
			if len(l) > 0 {
				t.Fatalf("%q beside an error", l)
			}
			return
		}
		w := newWorld(t, configOf(parts[0]), thePlan)
		if len(l) != len(parts)-1 {
			t.Fatalf("%d answers to %d lines", len(l), len(parts)-1)
		}
		for i, line := range parts[1:] {
			if want := answerOf(w, line); l[i] != want {
				t.Fatalf("line %d: %q: %q, not %q", i, line, l[i], want)
			}
		}
	})
}
