package shell_test

import (
	"fmt"
	"math"
	"math/rand/v2"
	"strconv"
	"strings"
	"testing"

	"headrace/api"
	"headrace/shell"
)

// realText is a number's text put together apart from the program: the fewest digits that tell it, with an exponent below 1e-4 and from 1e6 on.
func realText(x float64) string {
	if x != x {
		return "NaN"
	}
	if math.IsInf(x, 0) {
		return map[bool]string{true: "+Inf", false: "-Inf"}[x > 0]
	}
	sign := ""
	if math.Signbit(x) {
		sign = "-"
	}
	digits, exp := fewestDigits(math.Abs(x))
	if exp < -4 || exp >= 6 {
		point := ""
		if len(digits) > 1 {
			point = "."
		}
		return fmt.Sprintf("%s%s%s%se%+03d", sign, digits[:1], point, digits[1:], exp)
	}
	if exp < 0 {
		return sign + "0." + strings.Repeat("0", -exp-1) + digits
	}
	if len(digits) <= exp+1 {
		return sign + digits + strings.Repeat("0", exp+1-len(digits))
	}
	return sign + digits[:exp+1] + "." + digits[exp+1:]
}

// fewestDigits are those that tell a number that isn't below 0, and the exponent of the first one.
func fewestDigits(x float64) (string, int) {
	for n := 0; ; n++ {
		text := fmt.Sprintf("%.*e", n, x)
		if back, _ := strconv.ParseFloat(text, 64); back == x {
			mantissa, exp, _ := strings.Cut(text, "e")
			e, _ := strconv.Atoi(exp)
			return strings.Replace(mantissa, ".", "", 1), e
		}
	}
}

// reals are numbers of all kinds, and their texts.
var reals = []struct {
	x    float64
	text string
}{
	{0, "0"}, {math.Copysign(0, -1), "-0"}, {math.NaN(), "NaN"}, {math.Float64frombits(0xfff0000000000009), "NaN"}, {math.Inf(1), "+Inf"}, {math.Inf(-1), "-Inf"},
	{1, "1"}, {-1, "-1"}, {7, "7"}, {10, "10"}, {100, "100"}, {0.5, "0.5"}, {-2.5, "-2.5"}, {1.5, "1.5"}, {0.1, "0.1"}, {0.30000000000000004, "0.30000000000000004"}, {3.25, "3.25"},
	{99999, "99999"}, {100000, "100000"}, {999999, "999999"}, {999999.5, "999999.5"}, {1000000, "1e+06"}, {-1000000, "-1e+06"}, {1000001, "1.000001e+06"}, {1234567.5, "1.2345675e+06"},
	{0.001, "0.001"}, {0.0001, "0.0001"}, {-0.00015, "-0.00015"}, {0.00009, "9e-05"}, {0.000099999, "9.9999e-05"}, {0.00001, "1e-05"},
	{1e20, "1e+20"}, {1e21, "1e+21"}, {1e22, "1e+22"}, {1e23, "1e+23"}, {1e99, "1e+99"}, {1e100, "1e+100"}, {1e-99, "1e-99"}, {1e-100, "1e-100"}, {-1e300, "-1e+300"},
	{1 << 53, "9.007199254740992e+15"}, {math.MaxFloat64, "1.7976931348623157e+308"}, {-math.MaxFloat64, "-1.7976931348623157e+308"},
	{math.SmallestNonzeroFloat64, "5e-324"}, {-math.SmallestNonzeroFloat64, "-5e-324"}, {0x1p-1022, "2.2250738585072014e-308"},
}

// P21.1: Real of numbers of all kinds.
func TestReal(t *testing.T) {
	for _, v := range reals {
		if got := shell.Real(v.x); got != v.text {
			t.Errorf("Real(%b) = %s, not %s", v.x, got, v.text)
		}
	}
}

// P21.1: Real of any number is its text, and what is read of that is the number.
func TestAnyReal(t *testing.T) {
	r := rand.New(rand.NewPCG(211, 0))
	for i := range 30000 {
		x := math.Float64frombits(r.Uint64())
		switch i % 4 {
		case 1:
			x = float64(r.IntN(4000000)-2000000) / 2
		case 2:
			x = math.Ldexp(r.Float64()-0.5, r.IntN(50)-25)
		case 3:
			x = math.Pow(10, float64(r.IntN(30)-15)) * float64(1+r.IntN(99))
		}
		got := shell.Real(x)
		if got != realText(x) {
			t.Fatalf("Real(%b) = %s, not %s", x, got, realText(x))
		}
		back, err := strconv.ParseFloat(got, 64)
		if err != nil || x == x && math.Float64bits(back) != math.Float64bits(x) || x != x && back == back {
			t.Fatalf("%s is read as %b, not %b", got, back, x)
		}
	}
}

// tell is a pane that most texts are shown of.
func tell(key string, start, end int64, count uint64, sum float64, over bool, least, greatest float64) api.Pane {
	return api.Pane{Key: key, W: api.Window{Start: start, End: end}, A: api.Agg{Count: count, Sum: sum, Over: over, Min: least, Max: greatest}}
}

// P21.1: Show of keys of every kind.
func TestShowKeys(t *testing.T) {
	for key, want := range map[string]string{
		"": `""`, "a": `"a"`, " ": `" "`, "a b": `"a b"`, "  a  ": `"  a  "`, `"`: `"\""`, `a"b"`: `"a\"b\""`, "'": `"'"`, "`": "\"`\"", `\`: `"\\"`, `\n`: `"\\n"`,
		"\n": `"\n"`, "\t": `"\t"`, "\r": `"\r"`, "\a\b\f\v": `"\a\b\f\v"`, "\x00": `"\x00"`, "\x1b": `"\x1b"`, "\x7f": `"\x7f"`, "\x80": `"\x80"`, "\xff": `"\xff"`, "a\xffb": `"a\xffb"`, "\xc3": `"\xc3"`,
		"\xed\xa0\x80": `"\xed\xa0\x80"`, "\u00e9": `"é"`, "\u0085": `"\u0085"`, "\u00a0": `"\u00a0"`, "\u00ad": `"\u00ad"`, "\u2028": `"\u2028"`, "\ufeff": `"\ufeff"`, "\ufffd": "\"\ufffd\"", "\u4e16": `"世"`, "\U0001f600": "\"\U0001f600\"", "\U0010ffff": `"\U0010ffff"`,
		strings.Repeat("x", api.MaxKey): `"` + strings.Repeat("x", 32) + `"`, strings.Repeat("\xfe", api.MaxKey): `"` + strings.Repeat(`\xfe`, 32) + `"`, "[0, 10)": `"[0, 10)"`, "over": `"over"`,
	} {
		if got := shell.Show(tell(key, 0, 10, 1, 1.5, false, 1.5, 1.5)); got != want+" [0, 10) 1 1.5 1.5 1.5" {
			t.Errorf("Show of key %q: %s", key, got)
		}
	}
	// Whatever a key's bytes are, they are to be read from what is shown.
	for b := range 256 {
		for _, key := range []string{string([]byte{byte(b)}), string([]byte{'a', byte(b), 'b'}), string([]byte{0xc3, byte(b)}), string([]byte{byte(b), 0x80, 0x80})} {
			text, there := strings.CutSuffix(shell.Show(tell(key, 0, 1, 1, 0, false, 0, 0)), " [0, 1) 1 0 0 0")
			if back, err := strconv.Unquote(text); err != nil || back != key || !there || text != strconv.Quote(key) {
				t.Errorf("Show of key %q: %s", key, text)
			}
		}
	}
}

// P21.1: Show of Counts and windows at their ends, with Over and without it, of sums of all kinds.
func TestShow(t *testing.T) {
	no, inf, zero := math.NaN(), math.Inf(1), math.Copysign(0, -1)
	for want, p := range map[string]api.Pane{
		`"" [0, 0) 0 0 0 0`:                                         {},
		`"a" [0, 10) 1 1.5 1.5 1.5`:                                 tell("a", 0, 10, 1, 1.5, false, 1.5, 1.5),
		`"a" [0, 10) 1 1.5 over 1.5 1.5`:                            tell("a", 0, 10, 1, 1.5, true, 1.5, 1.5),
		`"b c" [-20, -10) 3 6 1 3`:                                  tell("b c", -20, -10, 3, 6, false, 1, 3),
		`"a" [-1, 1) 12 -7 -8.5 0.25`:                               tell("a", -1, 1, 12, -7, false, -8.5, 0.25),
		`"a" [7, -7) 2 0 -0 0`:                                      tell("a", 7, -7, 2, 0, false, zero, 0),
		`"a" [0, 1) 2 -0 -0 -0`:                                     tell("a", 0, 1, 2, zero, false, zero, zero),
		`"a" [0, 1) 1 NaN NaN NaN`:                                  tell("a", 0, 1, 1, no, false, no, no),
		`"a" [0, 1) 3 NaN -Inf +Inf`:                                tell("a", 0, 1, 3, no, false, -inf, inf),
		`"a" [0, 1) 2 +Inf 1 +Inf`:                                  tell("a", 0, 1, 2, inf, false, 1, inf),
		`"a" [0, 1) 2 -Inf -Inf 1`:                                  tell("a", 0, 1, 2, -inf, false, -inf, 1),
		`"a" [0, 1) 2 +Inf over 1e+308 1e+308`:                      tell("a", 0, 1, 2, inf, true, 1e308, 1e308),
		`"a" [0, 1) 2 -Inf over -1e+308 -1e+308`:                    tell("a", 0, 1, 2, -inf, true, -1e308, -1e308),
		`"a" [0, 1) 2 NaN over NaN NaN`:                             tell("a", 0, 1, 2, no, true, no, no),
		`"a" [0, 1) 4294967296 1e+06 1e-05 1e+20`:                   tell("a", 0, 1, 1<<32, 1e6, false, 1e-5, 1e20),
		`"a" [0, 1) 1099511627776 1 1 1`:                            tell("a", 0, 1, api.MaxOffset, 1, false, 1, 1),
		`"a" [0, 1) 9223372036854775808 1 1 1`:                      tell("a", 0, 1, 1<<63, 1, false, 1, 1),
		`"a" [0, 1) 18446744073709551615 1 1 1`:                     tell("a", 0, 1, math.MaxUint64, 1, false, 1, 1),
		`"a" [-1099511627776, -1099511627775) 1 1 1 1`:              tell("a", -api.MaxTime, 1-api.MaxTime, 1, 1, false, 1, 1),
		`"a" [1099511627776, 1100585369600) 1 1 1 1`:                tell("a", api.MaxTime, api.MaxTime+api.MaxSize, 1, 1, false, 1, 1),
		`"a" [-9223372036854775808, 9223372036854775807) 1 1 1 1`:   tell("a", math.MinInt64, math.MaxInt64, 1, 1, false, 1, 1),
		`"a" [9223372036854775807, -9223372036854775808) 1 1 1 1`:   tell("a", math.MaxInt64, math.MinInt64, 1, 1, false, 1, 1),
		`"a" [-9223372036854775807, 9223372036854775806) 10 1 1 1`:  tell("a", math.MinInt64+1, math.MaxInt64-1, 10, 1, false, 1, 1),
		`"a" [-100, 100) 100 1.7976931348623157e+308 5e-324 1e+308`: tell("a", -100, 100, 100, math.MaxFloat64, false, 5e-324, 1e308),
	} {
		if got := shell.Show(p); got != want {
			t.Errorf("Show(%+v) = %s, not %s", p, got, want)
		}
	}
}

// P21.1: Show of any pane is its parts' texts, one behind the other.
func TestAnyShow(t *testing.T) {
	r := rand.New(rand.NewPCG(211, 1))
	for range 5000 {
		p := anyPane(r)
		over := ""
		if p.A.Over {
			over = "over "
		}
		want := fmt.Sprintf("%q [%d, %d) %d %s %s%s %s", p.Key, p.W.Start, p.W.End, p.A.Count, realText(p.A.Sum), over, realText(p.A.Min), realText(p.A.Max))
		if got := shell.Show(p); got != want {
			t.Fatalf("Show(%+v) = %s, not %s", p, got, want)
		}
	}
}

func anyPane(r *rand.Rand) api.Pane {
	key := make([]byte, r.IntN(api.MaxKey+1))
	for i := range key {
		key[i] = byte(r.IntN(256))
	}
	of := func() float64 { return reals[r.IntN(len(reals))].x }
	return tell(string(key), int64(r.Uint64())>>r.IntN(64), int64(r.Uint64())>>r.IntN(64), r.Uint64()>>r.IntN(64), of(), r.IntN(2) > 0, of(), of())
}
