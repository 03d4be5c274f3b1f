package walk

import (
	"slices"
	"strings"

	"pegtable/syntax"
)

func (w *walker) terminal(part *syntax.Part, at int) int {
	to := stretch(part, w.input[at:])
	if to == fails {
		w.far.add(part.Terminal, at)
		return fails
	}
	return at + to
}

// stretch tells how many bytes of the text's beginning a terminal matches, or fails.
func stretch(part *syntax.Part, text string) int {
	if part.Kind == syntax.Literal {
		if strings.HasPrefix(text, part.Text) {
			return len(part.Text)
		}
		return fails
	}
	if text == "" || part.Kind == syntax.Class && !holds(text[0], part.Ranges...) {
		return fails
	}
	return 1
}

func holds(b byte, ranges ...syntax.Range) bool {
	return slices.ContainsFunc(ranges, func(r syntax.Range) bool { return r.First <= b && b <= r.Last })
}
