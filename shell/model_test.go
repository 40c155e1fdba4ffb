package shell_test

import (
	"fmt"
	"math"
	"math/big"
	"regexp"
	"slices"
	"strconv"
	"strings"
	"testing"

	"headrace/api"
	"headrace/files"
	"headrace/world"
)

const number = `(0|-?[1-9][0-9]*)`

// The forms of lines, written out.
var (
	formOfSettings = regexp.MustCompile(`\A(tumbling|sliding|session) ` + strings.Join(slices.Repeat([]string{number}, 6), " ") + `\z`)
	formOfEmit     = regexp.MustCompile(`\Aemit ` + number + ` ` + number + ` ([^ ]*) ([^ ]+)\z`)
	formOfNumbered = regexp.MustCompile(`\A(seal|compact|in|arm) ` + number + `\z`)
	formOfBare     = regexp.MustCompile(`\A(open|end|commit|restart)\z`)
)

// kinds are the kinds of steps, by their words.
var kinds = map[string]byte{
	"emit": world.Emit, "seal": world.Seal, "compact": world.Compact, "open": world.Open, "in": world.Deliver,
	"end": world.End, "commit": world.Commit, "arm": world.Arm, "restart": world.Restart,
}

// within is a number of so many bits, with a sign; false: it isn't.
func within(word string, bits uint) (int64, bool) {
	n, _ := new(big.Int).SetString(word, 10)
	end := new(big.Int).Lsh(big.NewInt(1), bits-1)
	if n.Cmp(end) >= 0 || n.Cmp(end.Neg(end)) < 0 {
		return 0, false
	}
	return n.Int64(), true
}

// errorOfSettings is what New answers of a line, by the chapter's words.
func errorOfSettings(line string) api.Errno {
	words := formOfSettings.FindStringSubmatch(line)
	if words == nil {
		return api.ErrText
	}
	for _, word := range words[2:] {
		if _, ok := within(word, 64); !ok {
			return api.ErrText
		}
	}
	if strings.HasPrefix(words[7], "-") {
		return api.ErrText
	}
	if _, ok := within(words[6], 32); !ok {
		return api.ErrArg
	}
	return api.OK
}

// configOf is the config of settings that there may be.
func configOf(line string) api.Config {
	words := formOfSettings.FindStringSubmatch(line)
	var n [6]int64
	for i := range n {
		n[i], _ = within(words[2+i], 64)
	}
	kind := map[string]byte{"tumbling": 0, "sliding": 1, "session": 2}[words[1]]
	return api.Config{Kind: kind, Size: n[0], Step: n[1], Late: n[2], Skew: n[3], Parts: int(n[4]), Cut: uint64(n[5])}
}

// stepOf is the step that a line tells, by the chapter's words; false: it is none.
func stepOf(line string) (x world.Step, ok bool) {
	if words := formOfEmit.FindStringSubmatch(line); words != nil {
		part, isPart := within(words[1], 32)
		time, isTime := within(words[2], 64)
		val, isVal := valOf(words[4])
		return world.Step{E: api.Event{Part: int(part), Time: time, Key: words[3], Val: val}}, isPart && isTime && isVal
	}
	if words := formOfNumbered.FindStringSubmatch(line); words != nil {
		n, isN := within(words[2], 32)
		return world.Step{Kind: kinds[words[1]], N: int(n)}, isN
	}
	if formOfBare.MatchString(line) {
		return world.Step{Kind: kinds[line]}, true
	}
	return world.Step{}, false
}

// valOf is the number that is written so.
func valOf(word string) (float64, bool) {
	for _, v := range []float64{math.NaN(), math.Inf(1), math.Inf(-1)} {
		if word == realText(v) {
			return v, true
		}
	}
	n, _, err := big.ParseFloat(word, 10, 3000, big.ToNearestEven)
	if err != nil || n.IsInf() {
		return 0, false
	}
	x, _ := n.Float64()
	return x, realText(x) == word
}

// answerOf is what a line comes to at a world, by the chapter's words.
func answerOf(w *world.World, line string) string {
	if line == "view" {
		return viewOf(w)
	}
	e := api.ErrText
	if x, ok := stepOf(line); ok {
		e = w.Do(x)
	}
	if e == api.OK {
		return "ok"
	}
	return fmt.Sprintf("error %d", e)
}

func viewOf(w *world.World) string {
	text := ""
	for i, p := range w.Engine().Ledger().View() {
		if i > 0 {
			text += "\n"
		}
		text += paneText(p)
	}
	return text
}

// paneText is what is shown of a pane, put together apart from the program.
func paneText(p api.Pane) string {
	over := ""
	if p.A.Over {
		over = " over"
	}
	return fmt.Sprintf("%s [%d, %d) %d %s%s %s %s", strconv.Quote(p.Key), p.W.Start, p.W.End, p.A.Count, realText(p.A.Sum), over, realText(p.A.Min), realText(p.A.Max))
}

// filesOf are a store's files and their bytes; without power their names alone.
func filesOf(t testing.TB, s *files.Store) map[string]string {
	t.Helper()
	l := map[string]string{}
	for _, name := range s.List() {
		p, e := s.Read(name)
		if s.On() {
			check(t, "Read "+name, e, api.OK)
		}
		l[name] = string(p)
	}
	return l
}

// told is all that a world tells, as a text; file by file, byte by byte.
func told(t testing.TB, w *world.World) string {
	t.Helper()
	s, x := w.Store(), w.Engine()
	return fmt.Sprintf("%+v %v %d %q %v %d %v %v %q", w.Log(), s.On(), s.Ops(), filesOf(t, s), x == nil, x.Commits(), x.Waiting(), x.Ledger().All(), x.Operator().Save())
}

// checkSame looks that two worlds tell the same.
func checkSame(t testing.TB, what any, got, want *world.World) {
	t.Helper()
	if a, b := told(t, got), told(t, want); a != b {
		t.Fatalf("%v: it tells %s\nnot %s", what, a, b)
	}
}
