package shell_test

import (
	"fmt"
	"math/rand/v2"
	"slices"
	"strings"
	"testing"

	"headrace/api"
	"headrace/shell"
	"headrace/world"
)

// tellBoth tells a line to a desk and a book, and looks that it comes to the same.
func tellBoth(t testing.TB, d *shell.Desk, b *book, line string) {
	t.Helper()
	s := d.World().Store()
	was := s.On()
	got := d.Line(line)
	if was && !s.On() {
		if got != "error 9" {
			t.Fatalf("%q: the power goes off: %s", line, got)
		}
		b.cut(line)
		return
	}
	if want := b.line(line); got != want {
		t.Fatalf("%q: %q, not %q", line, got, want)
	}
	if line == "restart" {
		b.resume(t, s)
	}
}

// checkBook looks that what is told goes by the book: each pane in revision 0 at first, taken back as it was told, told anew in the next one.
func checkBook(t testing.TB, l []api.Change) {
	t.Helper()
	type place struct {
		key string
		w   api.Window
	}
	type page struct {
		rev   uint64
		there bool
		text  string
	}
	pages := map[place]page{}
	for i, x := range l {
		at := place{x.P.Key, x.P.W}
		p, text := pages[at], paneText(x.P)
		if x.Put == p.there || x.Rev != p.rev || !x.Put && text != p.text {
			t.Fatalf("change %d isn't next: %+v", i, x)
		}
		if !x.Put {
			p.rev++
		}
		p.there, p.text = x.Put, text
		pages[at] = p
	}
}

// P3 to P6: whatever lines there are, with falls anywhere, each answer, each view too, is what the document's words come to without the program; behind the end it is the whole.
func TestAnyScript(t *testing.T) {
	panes, falls, taken, wholes := 0, 0, 0, 0
	for seed := range uint64(250) {
		r := rand.New(rand.NewPCG(216, seed))
		first := anySettings(r)
		c := configOf(first)
		form := c.Kind != api.Sliding || c.Size <= 16*c.Step
		d, b := newDesk(t, first), newBook(first, form)
		for range c.Cut {
			tellBoth(t, d, b, fmt.Sprintf("emit %d %d a 0.1", r.IntN(c.Parts), r.IntN(30)))
		}
		for range 200 {
			line := anyLine(r, d.World(), c)
			if line == "end" && r.IntN(4) > 0 {
				continue
			}
			on := d.World().Store().On()
			tellBoth(t, d, b, line)
			if on && !d.World().Store().On() {
				falls++
			}
		}
		tellBoth(t, d, b, "restart")
		if n := int(c.Cut) - b.sealed(); n > 0 {
			tellBoth(t, d, b, fmt.Sprint("seal ", n))
		}
		tellBoth(t, d, b, "open")
		for _, n := range r.Perm(len(b.log)) {
			tellBoth(t, d, b, fmt.Sprint("in ", n))
		}
		for _, line := range []string{"end", "commit", "view", "restart", "open", "view"} {
			tellBoth(t, d, b, line)
		}
		view := d.Line("view")
		// The end may have been told in the midst of a script; then less came.
		if c.Late < 0 && len(b.kept.came)+int(c.Cut) == len(b.log) {
			wholes++
			var all []string
			for _, g := range b.groups(b.log) {
				all = append(all, g.text())
			}
			if view != strings.Join(all, "\n") {
				t.Fatalf("seed %d: view %s\nnot %q", seed, view, all)
			}
		}
		l := d.World().Engine().Ledger().All()
		checkBook(t, l)
		for _, x := range l {
			if !x.Put {
				taken++
			}
		}
		panes += strings.Count(view, "\n")
	}
	if panes < 2000 || falls < 100 || taken < 500 || wholes < 30 {
		t.Errorf("%d panes, %d falls, %d taken back, %d wholes", panes, falls, taken, wholes)
	}
}

// P6: a script with the power going off in each operation; behind the restart all comes again: the view is that of the script without, and so is all that was told.
func TestEachFall(t *testing.T) {
	emits := []string{"emit 0 3 a 1e+20", "emit 0 4 b 1", "emit 0 12 a 3.5", "emit 0 1 a -1e+20", "emit 0 25 a 1", "emit 0 7 a 0.1", "emit 0 38 b 2", "emit 0 2 b -0", "emit 0 41 a 5", "emit 0 50  NaN"}
	script := strings.Split("seal 3;seal 2;compact 0;open;in 5;in 4;commit;in 7;in 6;commit;seal 2;in 8;in 9;end;commit", ";")
	var want string
	for n := 0; ; n++ {
		d := newDesk(t, "session 5 0 30 2 1 4")
		lines(t, d, emits...)
		lines(t, d, fmt.Sprint("arm ", n))
		fell := false
		for i := 0; i < len(script); i++ {
			got := d.Line(script[i])
			if !d.World().Store().On() {
				if got != "error 9" {
					t.Fatalf("off in operation %d, %q: %s", n, script[i], got)
				}
				checkRefused(t, d, script[i], "error 9")
				lines(t, d, "restart")
				fell, i = true, -1
				continue
			}
			// What comes again may be there.
			if again := []string{"error 1", "error 6", "error 11"}; got != "ok" && !(fell && slices.Contains(again, got)) {
				t.Fatalf("off in operation %d, %q: %s", n, script[i], got)
			}
		}
		got := d.Line("view") + fmt.Sprint(d.World().Engine().Ledger().All())
		if n == 0 {
			want = got
		}
		if got != want || strings.Count(got, "[") < 8 {
			t.Fatalf("off in operation %d: %s\nnot %s", n, got, want)
		}
		if n > 0 && !fell {
			if n < 40 {
				t.Errorf("%d operations", n)
			}
			return
		}
	}
}

// P3: sums have no error, in whatever order the events are in the archive and come.
func TestSums(t *testing.T) {
	vals := []string{"1e+300", "1", "-1e+300", "0.1", "1.7976931348623157e+308", "5e-324", "-1.7976931348623157e+308", "-0.1"}
	for seed := range uint64(60) {
		r := rand.New(rand.NewPCG(217, seed))
		text := fmt.Sprint("tumbling 10 0 -1 0 1 ", r.IntN(5))
		for _, i := range r.Perm(len(vals)) {
			text += fmt.Sprintf("\nemit 0 %d a %s", r.IntN(10), vals[i])
		}
		text += "\nseal 2\nseal 2\nopen"
		for _, i := range r.Perm(len(vals)) {
			text += fmt.Sprint("\nin ", i)
		}
		l, e := shell.Run(text + "\nend\ncommit\nview")
		check(t, "Run", e, api.OK)
		if want := `"a" [0, 10) 8 1 -1.7976931348623157e+308 1.7976931348623157e+308`; l[len(l)-1] != want {
			t.Fatalf("seed %d: %s, not %s", seed, l[len(l)-1], want)
		}
	}
}

// P7: with any bit of a page of a file turned the engine isn't opened, the archive isn't read, and what the file had is told again when it is turned back.
func TestSpoilt(t *testing.T) {
	d := busy(t)
	lines(t, d, "commit", "in 4", "in 5", "end", "commit")
	view := d.Line("view")
	s := d.World().Store()
	for i, name := range s.List() {
		p, e := s.Read(name)
		check(t, name, e, api.OK)
		for bit := range 8 * len(p) {
			check(t, name, d.World().Do(world.Step{Kind: world.Spoil, N: i, K: bit}), api.OK)
			line := "open"
			if name == "cat" || strings.HasPrefix(name, "seg.") {
				line = "compact 0"
			}
			if got := d.Line(line); got != "error 4" && got != "error 3" {
				t.Fatalf("%s, bit %d: %s: %s", name, bit, line, got)
			}
			check(t, name, d.World().Do(world.Step{Kind: world.Spoil, N: i, K: bit}), api.OK)
		}
		lines(t, d, "open")
		checkLine(t, d, "view", view)
	}
	lines(t, d, "compact 0", "open")
	checkLine(t, d, "view", view)
}
