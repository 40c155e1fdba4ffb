package shell

import (
	"math"
	"strconv"
	"strings"

	"headrace/api"
	"headrace/world"
)

const blank = " "

// wordsOf are the words of a line, if it has so many, with one blank between; of
// these some may be empty.
func wordsOf(line string, n int) ([]string, bool) {
	// Of more words no more than one is parted, however many there are.
	words := strings.SplitN(line, blank, n+1)
	if len(words) != n {
		return nil, false
	}
	return words, true
}

// readNumber is a number of so many bits, one of which is its sign.
func readNumber(word string, bits int) (int64, bool) {
	n, err := strconv.ParseInt(word, 10, bits)
	// It is also parsed with a plus, or noughts, ahead.
	if err != nil || strconv.FormatInt(n, 10) != word {
		return 0, false
	}
	return n, true
}

// readReal is a number as Real writes it.
func readReal(word string) (float64, bool) {
	x, err := strconv.ParseFloat(word, 64)
	// It is parsed in other ways of writing, too.
	if err != nil || Real(x) != word {
		return 0, false
	}
	return x, true
}

// readConfig is the config of a desk's settings.
func readConfig(line string) (api.Config, api.Errno) {
	words, ok := wordsOf(line, 7)
	if !ok {
		return api.Config{}, api.ErrText
	}
	kind, ok := readKind(words[0])
	if !ok {
		return api.Config{}, api.ErrText
	}
	var n [6]int64
	for i, word := range words[1:] {
		if n[i], ok = readNumber(word, 64); !ok {
			return api.Config{}, api.ErrText
		}
	}
	parts, cut := n[4], n[5]
	if cut < 0 {
		return api.Config{}, api.ErrText
	}
	if parts < math.MinInt32 || parts > math.MaxInt32 {
		return api.Config{}, api.ErrArg
	}
	return api.Config{Kind: kind, Size: n[0], Step: n[1], Late: n[2], Skew: n[3], Parts: int(parts), Cut: uint64(cut)}, api.OK
}

func readKind(word string) (byte, bool) {
	switch word {
	case "tumbling":
		return api.Tumbling, true
	case "sliding":
		return api.Sliding, true
	case "session":
		return api.Session, true
	}
	return 0, false
}

// readStep is the step that a line tells.
func readStep(line string) (world.Step, bool) {
	word, _, _ := strings.Cut(line, blank)
	switch word {
	case "emit":
		return readEmit(line)
	case "seal":
		return readNumbered(world.Seal, line)
	case "compact":
		return readNumbered(world.Compact, line)
	case "in":
		return readNumbered(world.Deliver, line)
	case "arm":
		return readNumbered(world.Arm, line)
	}
	return readBare(line)
}

// readEmit is the step of a line that has an event.
func readEmit(line string) (world.Step, bool) {
	words, ok := wordsOf(line, 5)
	if !ok {
		return world.Step{}, false
	}
	part, isPart := readNumber(words[1], 32)
	time, isTime := readNumber(words[2], 64)
	val, isVal := readReal(words[4])
	if !isPart || !isTime || !isVal {
		return world.Step{}, false
	}
	return world.Step{Kind: world.Emit, E: api.Event{Part: int(part), Time: time, Key: words[3], Val: val}}, true
}

// readNumbered is the step of a line that has a number.
func readNumbered(kind byte, line string) (world.Step, bool) {
	words, ok := wordsOf(line, 2)
	if !ok {
		return world.Step{}, false
	}
	n, ok := readNumber(words[1], 32)
	if !ok {
		return world.Step{}, false
	}
	return world.Step{Kind: kind, N: int(n)}, true
}

// readBare is the step of a line that is one word.
func readBare(line string) (world.Step, bool) {
	switch line {
	case "open":
		return world.Step{Kind: world.Open}, true
	case "end":
		return world.Step{Kind: world.End}, true
	case "commit":
		return world.Step{Kind: world.Commit}, true
	case "restart":
		return world.Step{Kind: world.Restart}, true
	}
	return world.Step{}, false
}
