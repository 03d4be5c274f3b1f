// Package pegtable: a parser by grammars whose ways are tried in order: see DOC.md.
package pegtable

import (
	"pegtable/api"
	"pegtable/syntax"
	"pegtable/walk"
)

// Parser parses by a grammar.
type Parser struct {
	grammar *syntax.Grammar
	config  api.Config
	stats   api.Stats
}

// Check tells whether a text is a grammar, and if not, where (P3).
func Check(grammar string) (api.Errno, int) {
	_, errno, at := syntax.Read(grammar)
	return errno, at
}

// Rules tells the names of the rules (P4).
func Rules(grammar string) ([]string, api.Errno) {
	g, errno, _ := syntax.Read(grammar)
	if errno != api.OK {
		return nil, errno
	}
	names := make([]string, len(g.Rules))
	for i, rule := range g.Rules {
		names[i] = rule.Name
	}
	return names, api.OK
}

// Open makes a parser (P5).
func Open(grammar string, c api.Config) (*Parser, api.Errno) {
	g, errno, _ := syntax.Read(grammar)
	if errno != api.OK {
		return nil, errno
	}
	if !mayBe(c) {
		return nil, api.ErrConfig
	}
	return &Parser{grammar: g, config: c}, api.OK
}

// Parse parses an input (P6, P7).
func (p *Parser) Parse(input string) (api.Answer, api.Errno) {
	p.stats = api.Stats{}
	if isLong(input) {
		return api.Answer{}, api.ErrLong
	}
	ground := walk.NewGround(p.grammar, p.config)
	answer, runs, ok := ground.Walk(0, input)
	if !ok {
		return api.Answer{}, api.ErrSpent
	}
	p.stats = ground.MemoryStats()
	p.stats.Runs = runs
	return answer, api.OK
}

func isLong(input string) bool {
	return len(input) > api.MaxInput
}

// Stats tells of the last input (P8).
func (p *Parser) Stats() api.Stats { return p.stats }
