// Package walk goes through an input by a grammar: it tells what matches, the tree of that, what failed farthest, and how many runs of rules there were.
package walk

import (
	"pegtable/api"
	"pegtable/syntax"
)

// fails is what stands instead of a place up to where a part matches that doesn't.
const fails = -1

// walker is one walk through one input. Its methods answer up to where a part matches at a place, or fails.
type walker struct {
	grammar *syntax.Grammar
	input   string
	most    int
	runs    int
	depth   int
	tree    []api.Node
	far     farthest
	known   []outcome
}

// Walk gives the answer for the first rule at the place 0, and the number of runs; or false, if there are more than most runs.
func Walk(g *syntax.Grammar, input string, most int) (api.Answer, int, bool) {
	w := walker{
		grammar: g,
		input:   input,
		most:    most,
		far:     farthest{place: nowhere},
		known:   make([]outcome, g.Brackets*(len(input)+1)),
	}
	to := w.run(0, 0)
	if w.spent() {
		return api.Answer{}, 0, false
	}
	return w.answer(to), w.runs, true
}

func (w *walker) spent() bool {
	return w.runs > w.most
}

func (w *walker) answer(to int) api.Answer {
	answer := api.Answer{Far: w.far.place, Failed: w.far.numbers()}
	if to != fails {
		answer.Matches, answer.To, answer.Tree = true, to, w.tree
	}
	return answer
}

func (w *walker) run(rule, at int) int {
	w.runs++
	node := len(w.tree)
	w.tree = append(w.tree, api.Node{Rule: rule, From: at, Depth: w.depth})
	w.depth++
	to := w.choice(at, w.grammar.Rules[rule].Choice.Parts...)
	w.depth--
	w.tree[node].To = to
	return to
}

// match takes care that a part that fails leaves nothing in the tree.
func (w *walker) match(part *syntax.Part, at int) int {
	// When too many runs are done nothing counts any more: all that is under way comes to its end at once.
	if w.spent() {
		return fails
	}
	before := len(w.tree)
	to := w.matchKind(part, at)
	if to == fails {
		w.tree = w.tree[:before]
	}
	return to
}

func (w *walker) matchKind(part *syntax.Part, at int) int {
	switch part.Kind {
	case syntax.Name:
		return w.run(part.Rule, at)
	case syntax.Choice:
		return w.bracket(part, at)
	case syntax.Sequence:
		return w.sequence(at, part.Parts...)
	case syntax.Optional:
		return w.optional(part.Parts[0], at)
	case syntax.Star:
		return w.star(part.Parts[0], at)
	case syntax.Plus:
		return w.plus(part.Parts[0], at)
	case syntax.And, syntax.Not:
		return w.look(part.Parts[0], at, part.Kind == syntax.And)
	}
	return w.terminal(part, at)
}

func (w *walker) choice(at int, ways ...*syntax.Part) int {
	for _, way := range ways {
		if to := w.match(way, at); to != fails {
			return to
		}
	}
	return fails
}

func (w *walker) sequence(at int, items ...*syntax.Part) int {
	for _, item := range items {
		at = w.match(item, at)
		if at == fails {
			return fails
		}
	}
	return at
}

func (w *walker) optional(part *syntax.Part, at int) int {
	to := w.match(part, at)
	if to == fails {
		return at
	}
	return to
}

// star ends, for what is repeated never matches an empty stretch: a grammar in which it could is without end, and isn't taken.
func (w *walker) star(part *syntax.Part, at int) int {
	for {
		to := w.match(part, at)
		if to == fails {
			return at
		}
		at = to
	}
}

func (w *walker) plus(part *syntax.Part, at int) int {
	to := w.match(part, at)
	if to == fails {
		return fails
	}
	return w.star(part, to)
}

// look matches the empty stretch, if it is as wanted whether the part matches. What the part has put into the tree is no part of the match.
func (w *walker) look(part *syntax.Part, at int, wanted bool) int {
	before := len(w.tree)
	matches := w.match(part, at) != fails
	w.tree = w.tree[:before]
	if matches != wanted {
		return fails
	}
	return at
}
