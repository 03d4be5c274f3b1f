package syntax

import (
	"slices"

	"pegtable/api"
)

// ruleSet tells for each rule whether it is in it.
type ruleSet [api.MaxRules]bool

// ends answers false and the place of the first rule that could go on for ever, if there is one.
func (g *Grammar) ends() (int, bool) {
	empty := g.emptyRules()
	leads := g.leads(empty)
	for i, rule := range g.Rules {
		if leads[i][i] || rule.Choice.repeatsEmpty(empty) {
			return rule.At, false
		}
	}
	return 0, true
}

// emptyRules begins with none and adds only what must be added: as few rules as can be are empty.
func (g *Grammar) emptyRules() ruleSet {
	var empty ruleSet
	for {
		before := empty
		for i, rule := range g.Rules {
			empty[i] = rule.Choice.isEmpty(before)
		}
		if empty == before {
			return empty
		}
	}
}

func (p *Part) isEmpty(empty ruleSet) bool {
	isEmpty := func(inner *Part) bool { return inner.isEmpty(empty) }
	switch p.Kind {
	case Name:
		return empty[p.Rule]
	case Literal:
		return p.Text == ""
	case Choice, Plus:
		return slices.ContainsFunc(p.Parts, isEmpty)
	case Sequence:
		return !slices.ContainsFunc(p.Parts, func(item *Part) bool { return !isEmpty(item) })
	case Optional, Star, And, Not:
		return true
	}
	return false
}

// leads gives for each rule those that it comes to by rules that begin with one another.
func (g *Grammar) leads(empty ruleSet) [api.MaxRules]ruleSet {
	var leads [api.MaxRules]ruleSet
	for i, rule := range g.Rules {
		rule.Choice.addBegins(&leads[i], empty)
	}
	for through := range leads {
		for from := range leads {
			if leads[from][through] {
				leads[from].add(leads[through])
			}
		}
	}
	return leads
}

func (s *ruleSet) add(other ruleSet) {
	for i, in := range other {
		s[i] = s[i] || in
	}
}

// addBegins puts into found the rules whose names stand in p with nothing but empty items ahead of them.
func (p *Part) addBegins(found *ruleSet, empty ruleSet) {
	if p.Kind == Name {
		found[p.Rule] = true
	}
	for _, inner := range p.Parts {
		inner.addBegins(found, empty)
		if p.Kind == Sequence && !inner.isEmpty(empty) {
			return
		}
	}
}

// repeatsEmpty tells whether there is an x* or x+ in p, or p is one, of which x is empty.
func (p *Part) repeatsEmpty(empty ruleSet) bool {
	repeats := p.Kind == Star || p.Kind == Plus
	return slices.ContainsFunc(p.Parts, func(inner *Part) bool {
		return repeats && inner.isEmpty(empty) || inner.repeatsEmpty(empty)
	})
}
