// Package pegtable: a parser by grammars whose ways are tried in order: see DOC.md.
package pegtable

import (
	"strings"

	"pegtable/api"
	"pegtable/syntax"
)

// Parser parses by a grammar.
type Parser struct{}

// Check tells whether a text is a grammar, and if not, where (P3).
func Check(grammar string) (api.Errno, int) {
	_, errno, at := syntax.Read(grammar)
	return errno, at
}

// Rules tells the names of the rules (P4).
func Rules(grammar string) ([]string, api.Errno) {
	g, errno, _ := syntax.Read(grammar)
	if errno != api.OK {
		return nil, errno
	}
	names := make([]string, len(g.Rules))
	for i, rule := range g.Rules {
		// The reader's names are pieces of the text; an answer shares no memory with what was handed in.
		names[i] = strings.Clone(rule.Name)
	}
	return names, api.OK
}

// Open makes a parser (P5).
func Open(grammar string, c api.Config) (*Parser, api.Errno) { return nil, api.OK }

// Parse parses an input (P6, P7).
func (p *Parser) Parse(input string) (api.Answer, api.Errno) { return api.Answer{}, api.OK }

// Stats tells of the last input (P8).
func (p *Parser) Stats() api.Stats { return api.Stats{} }

// Many parses inputs beside one another (P9).
func (p *Parser) Many(inputs ...string) ([]api.Answer, api.Errno) { return nil, api.OK }
