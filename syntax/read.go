package syntax

import "pegtable/api"

// Read gives the grammar that a text is, or the first error that applies, and its place.
func Read(text string) (*Grammar, api.Errno, int) {
	if len(text) > api.MaxGrammar {
		return nil, api.ErrLong, 0
	}
	r := reader{text: text}
	g, ok := r.grammar()
	if !ok {
		return nil, api.ErrText, r.at
	}
	if at, ok := g.resolve(r.mentions...); !ok {
		return nil, api.ErrName, at
	}
	if at, ok := g.ends(); !ok {
		return nil, api.ErrLoop, at
	}
	return g, api.OK, 0
}
