package shell

import (
	"strconv"
	"strings"

	"headrace/api"
)

const lineEnd = "\n"

// Real: a number as a text, the shortest that is read as it.
func Real(x float64) string {
	return strconv.FormatFloat(x, 'g', -1, 64)
}

// Show: a pane as a text.
func Show(p api.Pane) string {
	words := []string{strconv.Quote(p.Key), showWindow(p.W), strconv.FormatUint(p.A.Count, 10), Real(p.A.Sum)}
	if p.A.Over {
		words = append(words, "over")
	}
	return strings.Join(append(words, Real(p.A.Min), Real(p.A.Max)), blank)
}

func showWindow(w api.Window) string {
	return "[" + strconv.FormatInt(w.Start, 10) + ", " + strconv.FormatInt(w.End, 10) + ")"
}

// showAll is panes, a line each.
func showAll(l []api.Pane) string {
	lines := make([]string, len(l))
	for i, p := range l {
		lines[i] = Show(p)
	}
	return strings.Join(lines, lineEnd)
}
