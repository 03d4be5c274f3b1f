package syntax

import (
	"strings"

	"pegtable/api"
)

// none is what stands behind the last byte of a text: no byte.
const none = -1

// reader goes through a text once, never back. Its methods answer false where the text can't go on as a grammar: then at is the place of the first byte that cannot stand there, or the text's length. So they move over a byte only when a grammar can have it there.
type reader struct {
	text      string
	at        int
	terminals int
	brackets  int
	open      int
	mentions  []mention
}

// mention is a name as it stands in the text: a rule's own, or one in a choice, which then is part.
type mention struct {
	name string
	at   int
	part *Part
}

func (r *reader) next() int {
	if r.at == len(r.text) {
		return none
	}
	return int(r.text[r.at])
}

func (r *reader) take(sign byte) bool {
	if r.next() != int(sign) {
		return false
	}
	r.at++
	return true
}

func (r *reader) skipBlanks() {
	for r.take(' ') {
	}
}

func (r *reader) takeSign(sign byte) bool {
	r.skipBlanks()
	return r.take(sign)
}

func (r *reader) grammar() (*Grammar, bool) {
	g := &Grammar{}
	for {
		// Ahead of the blanks: where no rule may follow, a blank may not either.
		if len(g.Rules) == api.MaxRules {
			return nil, false
		}
		rule, ok := r.rule()
		if !ok {
			return nil, false
		}
		g.Rules = append(g.Rules, rule)
		if r.next() == none {
			g.Brackets = r.brackets
			return g, true
		}
	}
}

func (r *reader) rule() (Rule, bool) {
	r.skipBlanks()
	at := r.at
	name, ok := r.name(nil)
	if !ok || !r.takeSign('=') {
		return Rule{}, false
	}
	choice, ok := r.choice()
	if !ok || !r.takeSign('\n') {
		return Rule{}, false
	}
	// The name is a piece of the text, and the grammar outlives it.
	return Rule{Name: strings.Clone(name), At: at, Choice: choice}, true
}

func (r *reader) choice() (*Part, bool) {
	var ways []*Part
	for {
		way, ok := r.sequence()
		if !ok {
			return nil, false
		}
		ways = append(ways, way)
		if !r.takeSign('/') {
			return partOf(Choice, ways...), true
		}
	}
}

func (r *reader) sequence() (*Part, bool) {
	var items []*Part
	for {
		item, ok := r.item()
		if !ok {
			return nil, false
		}
		items = append(items, item)
		r.skipBlanks()
		if !beginsItem(r.next()) {
			return partOf(Sequence, items...), true
		}
	}
}

func beginsItem(b int) bool {
	switch b {
	case '&', '!', '\'', '[', '.', '(':
		return true
	}
	return isLetter(b)
}

func (r *reader) item() (*Part, bool) {
	and := r.takeSign('&')
	not := !and && r.takeSign('!')
	part, ok := r.repeated()
	switch {
	case !ok:
		return nil, false
	case and:
		return partOf(And, part), true
	case not:
		return partOf(Not, part), true
	}
	return part, true
}

func (r *reader) repeated() (*Part, bool) {
	part, ok := r.part()
	switch {
	case !ok:
		return nil, false
	case r.takeSign('?'):
		return partOf(Optional, part), true
	case r.takeSign('*'):
		return partOf(Star, part), true
	case r.takeSign('+'):
		return partOf(Plus, part), true
	}
	return part, true
}

func (r *reader) part() (*Part, bool) {
	r.skipBlanks()
	switch r.next() {
	case '\'', '[', '.':
		return r.terminal()
	case '(':
		return r.bracket()
	}
	part := partOf(Name)
	_, ok := r.name(part)
	return part, ok
}

func (r *reader) bracket() (*Part, bool) {
	if r.open == api.MaxDepth || !r.take('(') {
		return nil, false
	}
	r.open++
	choice, ok := r.choice()
	if !ok || !r.takeSign(')') {
		return nil, false
	}
	r.open--
	choice.Bracket = r.brackets
	r.brackets++
	return choice, true
}

func (r *reader) name(part *Part) (string, bool) {
	start := r.at
	for isLetter(r.next()) {
		if r.at-start == api.MaxName {
			return "", false
		}
		r.at++
	}
	if r.at == start {
		return "", false
	}
	name := r.text[start:r.at]
	r.mentions = append(r.mentions, mention{name: name, at: start, part: part})
	return name, true
}

func isLetter(b int) bool {
	return 'a' <= b && b <= 'z'
}
