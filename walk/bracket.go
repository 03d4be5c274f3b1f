package walk

import "pegtable/syntax"

// outcome is what came of a bracket at a place, once that is known.
type outcome struct {
	known bool
	to    int
}

// bracket walks through a bracket at a place only once, if no rule is run in it. Brackets in brackets that are repeated are tried at the same places so often that no bound on the runs would let the walk end soon. No run is spared by it, such a bracket has no nodes, and what fails in it has failed already: so nothing else is to be kept of it.
func (w *walker) bracket(part *syntax.Part, at int) int {
	found := &w.known[part.Bracket*(len(w.input)+1)+at]
	if found.known {
		return found.to
	}
	counted := w.counted
	to := w.choice(at, part.Parts...)
	if w.counted == counted {
		*found = outcome{known: true, to: to}
	}
	return to
}
