package walk

import (
	"slices"

	"pegtable/api"
	"pegtable/memory"
)

// result is what came of a run: up to where, how many runs count with it, and the results that its match is made of. Those are held as they are, not copied: else a memory of large trees would need much room.
type result struct {
	rule, from, to int
	counted        int
	inner          []*result
}

// run puts the result into what is matched, done or remembered. What failed in a run that is remembered has failed in this walk already.
func (w *walker) run(rule, at int) int {
	key := memory.Key{Input: w.number, Rule: rule, Place: at}
	r, found := w.memory.Find(key)
	if found {
		w.counted += r.counted
	} else {
		r = w.do(rule, at)
		w.keep(key, r)
	}
	w.matched = append(w.matched, r)
	return r.to
}

func (w *walker) do(rule, at int) *result {
	counted, before := w.counted, len(w.matched)
	w.counted++
	w.done++
	to := w.choice(at, w.grammar.Rules[rule].Choice.Parts...)
	r := &result{rule: rule, from: at, to: to, counted: w.counted - counted, inner: slices.Clone(w.matched[before:])}
	w.matched = w.matched[:before]
	return r
}

// keep leaves out what was cut off: it is not what came of the run, and would push out what others need.
func (w *walker) keep(key memory.Key, r *result) {
	if !w.spent() {
		w.memory.Keep(key, r)
	}
}

// addTo adds the nodes of a match to a tree, in the order in which the runs begin.
func (r *result) addTo(tree []api.Node, depth int) []api.Node {
	tree = append(tree, api.Node{Rule: r.rule, From: r.from, To: r.to, Depth: depth})
	for _, inner := range r.inner {
		tree = inner.addTo(tree, depth+1)
	}
	return tree
}
