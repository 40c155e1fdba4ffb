package shell_test

import (
	"fmt"
	"math"
	"math/rand/v2"
	"strings"
	"testing"

	"headrace/api"
	"headrace/shell"
	"headrace/sorter"
	"headrace/world"
)

const (
	theRoom  = 1 << 20
	settings = "tumbling 10 0 0 0 1 0"
)

var thePlan = sorter.Plan{Hold: 16, Fan: 3}

func check(t testing.TB, what any, got, want api.Errno) {
	t.Helper()
	if got != want {
		t.Fatalf("%v: error %d, not %d", what, got, want)
	}
}

func newDesk(t testing.TB, line string) *shell.Desk {
	t.Helper()
	d, e := shell.New(line)
	check(t, fmt.Sprintf("New(%q)", line), e, api.OK)
	if d == nil || d.World() == nil || d.World() != d.World() {
		t.Fatalf("New(%q): no desk, or no world", line)
	}
	return d
}

func newWorld(t testing.TB, c api.Config, p sorter.Plan) *world.World {
	t.Helper()
	w, e := world.New(theRoom, c, p)
	check(t, "world.New", e, api.OK)
	return w
}

// lines tells a desk some lines, each of which must come to ok.
func lines(t testing.TB, d *shell.Desk, l ...string) {
	t.Helper()
	for _, line := range l {
		if got := d.Line(line); got != "ok" {
			t.Fatalf("%q: %s", line, got)
		}
	}
}

// P21.2: a desk with a new world: an empty log, an empty store, no engine.
func TestNew(t *testing.T) {
	for _, line := range []string{settings, "sliding 10 4 0 0 1 0", "session 5 0 -1 2 8 3"} {
		w := newDesk(t, line).World()
		s := w.Store()
		if len(w.Log()) > 0 || w.Engine() != nil || len(s.List()) > 0 || s.Used() > 0 || s.Ops() > 0 || !s.On() {
			t.Errorf("%q: %v, %v, %v", line, w.Log(), w.Engine(), s.List())
		}
	}
	if newDesk(t, settings).World() == newDesk(t, settings).World() {
		t.Error("two desks have one world")
	}
}

// P21.2: each number is what it is of the config, of each kind of window.
func TestNewConfig(t *testing.T) {
	for line, want := range map[string]api.Config{
		settings:                                                {Kind: api.Tumbling, Size: 10, Parts: 1},
		"tumbling 1 0 0 0 1 0":                                  {Kind: api.Tumbling, Size: 1, Parts: 1},
		"tumbling 7 0 3 2 5 0":                                  {Kind: api.Tumbling, Size: 7, Late: 3, Skew: 2, Parts: 5},
		"sliding 10 4 0 0 1 0":                                  {Kind: api.Sliding, Size: 10, Step: 4, Parts: 1},
		"sliding 9 3 1 2 4 0":                                   {Kind: api.Sliding, Size: 9, Step: 3, Late: 1, Skew: 2, Parts: 4},
		"session 5 0 0 0 8 0":                                   {Kind: api.Session, Size: 5, Parts: 8},
		"session 5 0 -1 11 2 0":                                 {Kind: api.Session, Size: 5, Late: -1, Skew: 11, Parts: 2},
		"session 5 0 -9223372036854775808 1 3 0":                {Kind: api.Session, Size: 5, Late: math.MinInt64, Skew: 1, Parts: 3},
		"tumbling 1073741824 0 1073741824 1073741824 8 0":       {Kind: api.Tumbling, Size: api.MaxSize, Late: api.MaxSize, Skew: api.MaxSize, Parts: 8},
		"sliding 1073741824 67108864 1073741823 1073741822 7 0": {Kind: api.Sliding, Size: api.MaxSize, Step: api.MaxSize / 16, Late: api.MaxSize - 1, Skew: api.MaxSize - 2, Parts: 7},
		"sliding 1073741824 1073741824 -1 1000000000 7 0":       {Kind: api.Sliding, Size: api.MaxSize, Step: api.MaxSize, Late: -1, Skew: 1000000000, Parts: 7},
	} {
		d := newDesk(t, line)
		lines(t, d, "open")
		if got := d.World().Engine().Operator().Config(); got != want {
			t.Errorf("%q: %+v, not %+v", line, got, want)
		}
	}
	// Of a Cut above 0 an engine is opened only behind an archive up to it.
	d := newDesk(t, "tumbling 10 0 0 0 1 2")
	lines(t, d, "emit 0 1 a 1", "emit 0 2 a 1", "emit 0 3 a 1", "seal 3", "open")
	if got := d.World().Engine().Operator().Config(); got.Cut != 2 {
		t.Errorf("Cut %d", got.Cut)
	}
	for line, want := range map[string]string{
		"tumbling 10 0 0 0 1 1":                   "error 8",
		"tumbling 10 0 0 0 1 1099511627776":       "error 8",
		"tumbling 10 0 0 0 1 1099511627777":       "error 1",
		"tumbling 10 0 0 0 1 9223372036854775807": "error 1",
	} {
		if got := newDesk(t, line).Line("open"); got != want {
			t.Errorf("%q: open: %s, not %s", line, got, want)
		}
	}
}

// P21.2: a room of 2^20 bytes.
func TestNewRoom(t *testing.T) {
	s := newDesk(t, settings).World().Store()
	check(t, "one byte too many", s.Append("a", make([]byte, theRoom+1)), api.ErrFull)
	check(t, "all bytes", s.Append("a", make([]byte, theRoom)), api.OK)
	check(t, "one byte more", s.Append("a", []byte("x")), api.ErrFull)
}

// opsOfOpen is how many operations there are behind the opening of an archive of n events.
func opsOfOpen(t testing.TB, w *world.World, n int) int {
	t.Helper()
	for i := range n {
		check(t, "Emit", w.Do(world.Step{Kind: world.Emit, E: api.Event{Time: int64(i), Key: "a"}}), api.OK)
	}
	check(t, "Seal", w.Do(world.Step{Kind: world.Seal, N: n}), api.OK)
	check(t, "Open", w.Do(world.Step{Kind: world.Open}), api.OK)
	return w.Store().Ops()
}

// P21.2: a plan of Hold 16 and Fan 3: it sorts by as many operations as that plan, and as no other.
func TestNewPlan(t *testing.T) {
	c := api.Config{Size: 10, Parts: 1}
	for hold := 14; hold < 19; hold++ {
		for fan := 2; fan < 6; fan++ {
			same := true
			for _, n := range []int{16, 17, 32, 33, 48, 49, 64, 65, 144, 145, 160} {
				c.Cut = uint64(n)
				got := opsOfOpen(t, newDesk(t, fmt.Sprintf("tumbling 10 0 0 0 1 %d", n)).World(), n)
				same = same && got == opsOfOpen(t, newWorld(t, c, sorter.Plan{Hold: hold, Fan: fan}), n)
			}
			if same != (hold == 16 && fan == 3) {
				t.Errorf("as Hold %d, Fan %d: %v", hold, fan, same)
			}
		}
	}
}

// P21.2: whether a config has its form plays no part.
func TestNewWithoutForm(t *testing.T) {
	for _, line := range []string{
		"tumbling 0 0 0 0 0 0", "tumbling 0 0 0 0 1 0", "tumbling -1 0 0 0 1 0", "tumbling 10 1 0 0 1 0", "tumbling 10 0 0 -1 1 0", "tumbling 1073741825 0 0 0 1 0", "tumbling 10 0 1073741825 0 1 0", "tumbling 10 0 0 1073741825 1 0",
		"sliding 10 0 0 0 1 0", "sliding 10 11 0 0 1 0", "sliding 100 1 0 0 1 0", "sliding 10 -1 0 0 1 0", "session 10 1 0 0 1 0", "session 0 0 0 0 1 0",
		"tumbling 10 0 0 0 0 0", "tumbling 10 0 0 0 -1 0", "tumbling 10 0 0 0 9 0", "tumbling 10 0 0 0 2147483647 0", "tumbling 10 0 0 0 -2147483648 0",
		"tumbling 9223372036854775807 0 0 0 1 0", "tumbling -9223372036854775808 0 0 0 1 0", "tumbling 10 9223372036854775807 0 0 1 0", "tumbling 10 -9223372036854775808 0 0 1 0", "tumbling 10 0 9223372036854775807 0 1 0",
		"tumbling 10 0 0 9223372036854775807 1 0", "tumbling 10 0 0 -9223372036854775808 1 0", "tumbling 10 0 0 0 1 9223372036854775807",
		"session -1 -2 -3 -4 -5 6",
	} {
		d := newDesk(t, line)
		if got := d.Line("open"); got != "error 1" {
			t.Errorf("%q: open: %s", line, got)
		}
	}
	// Parts is what an event's form goes by.
	for line, want := range map[string]string{
		"tumbling 10 0 0 0 0 0":           "error 3 error 3 error 3",
		"tumbling 10 0 0 0 -2147483648 0": "error 3 error 3 error 3",
		"tumbling 10 0 0 0 9 0":           "ok ok error 3",
		"tumbling 10 0 0 0 2147483647 0":  "ok ok ok",
	} {
		d := newDesk(t, line)
		got := d.Line("emit 0 1 a 1") + " " + d.Line("emit 8 1 a 1") + " " + d.Line("emit 2147483646 1 a 1")
		if got != want {
			t.Errorf("%q: %s, not %s", line, got, want)
		}
	}
}

// checkNoDesk looks that of a line there is none, and why.
func checkNoDesk(t *testing.T, line string, want api.Errno) {
	t.Helper()
	if d, e := shell.New(line); d != nil || e != want {
		t.Errorf("New(%q): %v, error %d; not %d", line, d, e, want)
	}
	if strings.Contains(line, "\n") {
		return
	}
	if l, e := shell.Run(line + "\nopen"); len(l) > 0 || e != want {
		t.Errorf("Run(%q): %q, error %d; not %d", line, l, e, want)
	}
}

// P21.2: lines that aren't of the form.
func TestNewText(t *testing.T) {
	for _, line := range []string{
		"", " ", "tumbling", "10", "tumbling ", "tumbling 10", "tumbling 10 0 0 0 1", "tumbling 10 0 0 0 1 ", "tumbling 10 0 0 0 1 0 0", "tumbling 10 0 0 0 1 0 ", " tumbling 10 0 0 0 1 0", "tumbling 10 0 0 0 1 0 x", "      ", "       ",
		"tumbling  10 0 0 0 1 0", "tumbling 10  0 0 0 1 0", "tumbling 10 0 0 0 1  0", "tumbling 10 0 0 01 0", "tumbling10 0 0 0 1 0", "tumbling\t10 0 0 0 1 0", "tumbling 10 0 0\t0 1 0", "tumbling,10,0,0,0,1,0", "tumbling 10 0 0 0 1 0\r", "tumbling 10 0 0 0 1 0\n", "\ntumbling 10 0 0 0 1 0", "tumbling 10\u00a00 0 0 1 0",
		"Tumbling 10 0 0 0 1 0", "TUMBLING 10 0 0 0 1 0", "tumblin 10 0 0 0 1 0", "tumblings 10 0 0 0 1 0", "hopping 10 0 0 0 1 0", "sessions 5 0 0 0 1 0", "0 10 0 0 0 1 0", "1 10 4 0 0 1 0", " 10 0 0 0 1 0", "emit 0 3 a 1.5", "tumbling sliding 10 0 0 0 1 0", "10 0 0 0 1 0 tumbling", "sliding\x00 10 4 0 0 1 0",
		"open", "view",
	} {
		checkNoDesk(t, line, api.ErrText)
	}
	// The first word alone says what it is, whatever the numbers are.
	for _, kind := range []string{"tumbling", "sliding", "session"} {
		newDesk(t, kind+" 0 0 0 0 0 0")
		checkNoDesk(t, kind+kind+" 0 0 0 0 0 0", api.ErrText)
		checkNoDesk(t, kind[:len(kind)-1]+" 0 0 0 0 0 0", api.ErrText)
	}
}

// P21.2: at each place what is no number, or is beyond 64 bits; Parts beyond 32 bits; a Cut below 0.
func TestNewNumbers(t *testing.T) {
	of := func(at int, word string) string {
		words := strings.Split(settings, " ")
		words[at] = word
		return strings.Join(words, " ")
	}
	for at := 1; at <= 6; at++ {
		for _, word := range notNumbers {
			checkNoDesk(t, of(at, word), api.ErrText)
		}
		for _, word := range []string{"9223372036854775808", "-9223372036854775809", "18446744073709551616", "-18446744073709551616", "99999999999999999999999999", "-99999999999999999999999999", "1" + strings.Repeat("0", 400)} {
			checkNoDesk(t, of(at, word), api.ErrText)
		}
		for word, want := range map[string][2]api.Errno{
			"0": {}, "1": {}, "9": {}, "10": {}, "2147483647": {}, "-1": {0, api.ErrText}, "-10": {0, api.ErrText}, "-2147483648": {0, api.ErrText},
			"2147483648": {api.ErrArg, 0}, "4294967297": {api.ErrArg, 0}, "9223372036854775807": {api.ErrArg, 0}, "-2147483649": {api.ErrArg, api.ErrText}, "-4294967295": {api.ErrArg, api.ErrText}, "-9223372036854775808": {api.ErrArg, api.ErrText},
		} {
			e := api.OK
			if at >= 5 {
				e = want[at-5]
			}
			if e != api.OK {
				checkNoDesk(t, of(at, word), e)
				continue
			}
			newDesk(t, of(at, word))
		}
	}
}

// notNumbers are words that aren't digits, with a - ahead, if it is below 0, without noughts ahead.
var notNumbers = []string{
	"", "+0", "+1", "-0", "00", "01", "-01", "007", "-00", "--1", "-", "+", "+-1", "1-", "1.0", "1.", ".1", "0.0", "1e0", "1e1", "0x1", "0b1", "0o7", "1_0", "1,0", "a", "x1", "1x", "NaN", "+Inf", "Inf", "ten", "1\t", "\t1", "1\r", "1\x00", "\u0661", "\uff11", "²", "\u22121", "'1'", `"1"`,
}

// P21.2: where several faults are there at once, ErrText goes ahead of ErrArg.
func TestNewSeveral(t *testing.T) {
	for _, line := range []string{
		"tumbling 10 0 0 0 2147483648 -1", "tumbling 10 0 0 0 2147483648", "tumbling 10 0 0 0 2147483648 0 0", "tumbling 10 0 0 0 2147483648 x", "tumbling x 0 0 0 2147483648 0", "other 10 0 0 0 2147483648 0", "tumbling 9223372036854775808 0 0 0 2147483648 0", "tumbling 10 0 0 0 -2147483649 9223372036854775808", " tumbling 10 0 0 0 2147483648 0", "tumbling 10 0 0 0 2147483648 0 ",
	} {
		checkNoDesk(t, line, api.ErrText)
	}
	checkNoDesk(t, "tumbling 0 -7 -8 -9 2147483648 0", api.ErrArg)
}

// P1, P21.2: of any line there is a desk, or none and why; as what the chapter's words come to.
func TestAnyNew(t *testing.T) {
	r := rand.New(rand.NewPCG(212, 0))
	count := map[api.Errno]int{}
	for range 20000 {
		words := []string{[]string{"tumbling", "sliding", "session"}[r.IntN(3)]}
		if r.IntN(20) == 0 {
			words[0] = []string{"", "sessions", "0", " tumbling"}[r.IntN(4)]
		}
		for range 6 {
			words = append(words, anyWord(r))
		}
		if r.IntN(20) == 0 {
			words = words[:r.IntN(len(words))]
		}
		line := strings.Join(words, " ")
		want := errorOfSettings(line)
		d, e := shell.New(line)
		if e != want || (d == nil) != (want != api.OK) {
			t.Fatalf("New(%q): %v, error %d, not %d", line, d, e, want)
		}
		count[e]++
	}
	if count[api.OK] < 1000 || count[api.ErrText] < 1000 || count[api.ErrArg] < 1000 {
		t.Errorf("%v", count)
	}
}

// anyWord is a number, most often.
func anyWord(r *rand.Rand) string {
	if r.IntN(40) == 0 {
		return notNumbers[r.IntN(len(notNumbers))]
	}
	if r.IntN(60) == 0 {
		return []string{"9223372036854775808", "-9223372036854775809", "9223372036854775807", "-9223372036854775808"}[r.IntN(4)]
	}
	if r.IntN(3) > 0 {
		return fmt.Sprint(r.IntN(20))
	}
	return fmt.Sprint((int64(r.Uint64()) >> r.IntN(64)))
}
