// Package syntax reads the text of a grammar, and tells what is wrong with it and where.
package syntax

// Kind tells what a part of a grammar is, and so which of its fields count.
type Kind int

const (
	Name     Kind = iota // Rule
	Literal              // Terminal, Text
	Class                // Terminal, Ranges
	Any                  // Terminal
	Choice               // Parts: the ways, in order; Bracket, but for a rule's own
	Sequence             // Parts: the items, in order
	Optional             // Parts: the one that may be missing
	Star                 // Parts: the one that is repeated
	Plus                 // Parts: the one that is repeated
	And                  // Parts: the one that is looked for
	Not                  // Parts: the one that is looked for
)

// Range holds the bytes from First to Last, both with it.
type Range struct {
	First, Last byte
}

// Part is a part of a rule's choice. A bracket is the choice in it. Terminals and brackets have numbers of their own, from 0 on.
type Part struct {
	Kind     Kind
	Rule     int
	Terminal int
	Bracket  int
	Text     string
	Ranges   []Range
	Parts    []*Part
}

// Rule is a rule, with the place of its name's first letter.
type Rule struct {
	Name   string
	At     int
	Choice *Part
}

// Grammar is what a text means that is a grammar. It keeps nothing of the text.
type Grammar struct {
	Rules    []Rule
	Brackets int
}

func partOf(kind Kind, parts ...*Part) *Part {
	return &Part{Kind: kind, Parts: parts}
}

func classOf(terminal int, ranges ...Range) *Part {
	return &Part{Kind: Class, Terminal: terminal, Ranges: ranges}
}
