// Package walk goes through inputs by a grammar: it tells what matches, the tree of that, what failed farthest, and how many runs of rules there were.
package walk

import (
	"pegtable/api"
	"pegtable/memory"
	"pegtable/syntax"
)

// fails is what stands instead of a place up to where a part matches that doesn't.
const fails = -1

// Ground is what walks through several inputs have in common.
type Ground struct {
	grammar *syntax.Grammar
	most    int
	memory  *memory.Memory[*result]
}

// NewGround gives a ground with an empty memory.
func NewGround(g *syntax.Grammar, c api.Config) *Ground {
	return &Ground{grammar: g, most: c.Runs, memory: memory.New[*result](c, len(g.Rules))}
}

// MemoryStats tells of the memory alone: without runs.
func (g *Ground) MemoryStats() api.Stats {
	return g.memory.Stats()
}

// walker is one walk through one input. Its methods answer up to where a part matches at a place, or fails.
type walker struct {
	*Ground
	number  int
	input   string
	counted int // runs as without memory
	done    int // runs in truth
	matched []*result
	far     farthest
	known   []outcome
}

// Walk gives the answer for the first rule at the place 0, and the number of runs that were done; or false, if more runs count than may be. Inputs that are walked through over one ground have numbers of their own.
func (g *Ground) Walk(number int, input string) (api.Answer, int, bool) {
	w := walker{
		Ground: g,
		number: number,
		input:  input,
		far:    farthest{place: nowhere},
		known:  make([]outcome, g.grammar.Brackets*(len(input)+1)),
	}
	w.run(0, 0)
	if w.spent() {
		return api.Answer{}, 0, false
	}
	return w.answer(w.matched[0]), w.done, true
}

func (w *walker) spent() bool {
	return w.counted > w.most
}

func (w *walker) answer(first *result) api.Answer {
	answer := api.Answer{Far: w.far.place, Failed: w.far.numbers()}
	if first.to != fails {
		answer.Matches, answer.To, answer.Tree = true, first.to, first.addTo(nil, 0)
	}
	return answer
}

// match takes care that a part that fails leaves nothing in what is matched.
func (w *walker) match(part *syntax.Part, at int) int {
	// When too many runs are done nothing counts any more: all that is under way comes to its end at once.
	if w.spent() {
		return fails
	}
	before := len(w.matched)
	to := w.matchKind(part, at)
	if to == fails {
		w.matched = w.matched[:before]
	}
	return to
}

func (w *walker) matchKind(part *syntax.Part, at int) int {
	switch part.Kind {
	case syntax.Name:
		return w.run(part.Rule, at)
	case syntax.Choice:
		return w.bracket(part, at)
	case syntax.Sequence:
		return w.sequence(at, part.Parts...)
	case syntax.Optional:
		return w.optional(part.Parts[0], at)
	case syntax.Star:
		return w.star(part.Parts[0], at)
	case syntax.Plus:
		return w.plus(part.Parts[0], at)
	case syntax.And, syntax.Not:
		return w.look(part.Parts[0], at, part.Kind == syntax.And)
	}
	return w.terminal(part, at)
}

func (w *walker) choice(at int, ways ...*syntax.Part) int {
	for _, way := range ways {
		if to := w.match(way, at); to != fails {
			return to
		}
	}
	return fails
}

func (w *walker) sequence(at int, items ...*syntax.Part) int {
	for _, item := range items {
		at = w.match(item, at)
		if at == fails {
			return fails
		}
	}
	return at
}

func (w *walker) optional(part *syntax.Part, at int) int {
	to := w.match(part, at)
	if to == fails {
		return at
	}
	return to
}

// star ends, for what is repeated never matches an empty stretch: a grammar in which it could is without end, and isn't taken.
func (w *walker) star(part *syntax.Part, at int) int {
	for {
		to := w.match(part, at)
		if to == fails {
			return at
		}
		at = to
	}
}

func (w *walker) plus(part *syntax.Part, at int) int {
	to := w.match(part, at)
	if to == fails {
		return fails
	}
	return w.star(part, to)
}

// look matches the empty stretch, if it is as wanted whether the part matches. What is matched in the part is no part of the match.
func (w *walker) look(part *syntax.Part, at int, wanted bool) int {
	before := len(w.matched)
	matches := w.match(part, at) != fails
	w.matched = w.matched[:before]
	if matches != wanted {
		return fails
	}
	return at
}
