package syntax

import "slices"

// resolve gives each name in a choice the number of its rule. It answers false and the place of the first name that is a rule's for the second time, or no rule's.
func (g *Grammar) resolve(mentions ...mention) (int, bool) {
	for _, m := range mentions {
		rule := g.find(m.name)
		switch {
		case m.part == nil && g.Rules[rule].At != m.at:
			return m.at, false
		case m.part != nil && rule < 0:
			return m.at, false
		case m.part != nil:
			m.part.Rule = rule
		}
	}
	return 0, true
}

// find gives the first rule of a name, or -1.
func (g *Grammar) find(name string) int {
	return slices.IndexFunc(g.Rules, func(r Rule) bool { return r.Name == name })
}
