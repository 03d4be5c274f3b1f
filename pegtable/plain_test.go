package pegtable_test

import (
	"fmt"
	"math/rand"
	"slices"
	"strings"
	"testing"

	"pegtable/api"
	"pegtable/pegtable"
)

// piece is a part of a grammar that the tests make up, apart from the program's reader. sign is a name's, literal's or class's first sign, or that of what it is made by: ' ' of a sequence, '/' of a choice.
type piece struct {
	sign     byte
	rule     int
	terminal int
	text     string
	inner    []*piece
}

// maker makes up pieces, in the order in which they stand in the text.
type maker struct {
	random    *rand.Rand
	rules     int
	terminals int
}

func (m *maker) choice(depth int) *piece {
	p := &piece{sign: '/'}
	for range 1 + m.random.Intn(4) {
		p.inner = append(p.inner, m.way(depth))
	}
	if m.random.Intn(2) == 0 {
		// A last way that mostly fits: else few trees would be deep.
		p.inner = append(p.inner, &piece{sign: ' ', inner: []*piece{m.terminal("'a", "[ab", ".", "'")}})
	}
	return p
}

// way mostly begins with a byte: else most grammars would be without end.
func (m *maker) way(depth int) *piece {
	p := &piece{sign: ' '}
	if m.random.Intn(4) > 0 {
		p.inner = append(p.inner, m.terminal("'a", "'a", "'b", "[ab", "."))
	}
	for range 1 + m.random.Intn(3) {
		p.inner = append(p.inner, m.item(depth))
	}
	return p
}

func (m *maker) item(depth int) *piece {
	p := m.part(depth)
	if sign := "    ?*+"[m.random.Intn(7)]; sign != ' ' {
		p = &piece{sign: sign, inner: []*piece{p}}
	}
	if sign := "        &!"[m.random.Intn(10)]; sign != ' ' {
		p = &piece{sign: sign, inner: []*piece{p}}
	}
	return p
}

func (m *maker) part(depth int) *piece {
	switch n := m.random.Intn(10); {
	case n < 5:
		return &piece{sign: 'n', rule: m.random.Intn(m.rules)}
	case n < 6 && depth < api.MaxDepth:
		return m.choice(depth + 1)
	}
	return m.terminal("'a", "'b", "'ab", "'ba", "'aa", "[a", "[bc", "[ab", ".", "'")
}

// terminal takes one of the texts; its first sign tells what it is.
func (m *maker) terminal(texts ...string) *piece {
	m.terminals++
	text := texts[m.random.Intn(len(texts))]
	return &piece{sign: text[0], terminal: m.terminals - 1, text: text[1:]}
}

// write gives the text of a piece; that of a choice is without brackets.
func (p *piece) write() string {
	var texts []string
	for _, inner := range p.inner {
		text := inner.write()
		if inner.sign == '/' {
			text = "(" + text + ")"
		}
		texts = append(texts, text)
	}
	switch p.sign {
	case 'n':
		return string(rune('s' + p.rule))
	case '\'':
		return "'" + p.text + "'"
	case '[':
		return "[" + p.text + "]"
	case '/', ' ':
		return strings.Join(texts, string(p.sign))
	case '&', '!':
		return string(p.sign) + texts[0]
	}
	return strings.Join(texts, "") + string(p.sign)
}

// plainWalk tries a grammar as the document's words tell, without any thought of time or room.
type plainWalk struct {
	rules    []*piece
	input    string
	runs     int
	steps    int
	failures []failure
	memories []*pretended
}

type failure struct {
	place, terminal int
}

// found is what comes of a piece at a place.
type found struct {
	ok    bool
	to    int
	nodes []api.Node
}

// tooMuch ends a walk that the tests don't wait for.
type tooMuch struct{}

func (w *plainWalk) try(p *piece, place, depth int) found {
	w.steps++
	if w.runs > api.MaxRuns || w.steps > 400_000 {
		panic(tooMuch{})
	}
	empty := found{ok: true, to: place}
	switch p.sign {
	case 'n':
		return w.run(p.rule, place, depth)
	case '/':
		for _, way := range p.inner {
			if f := w.try(way, place, depth); f.ok {
				return f
			}
		}
		return found{}
	case ' ':
		return w.row(empty, depth, p.inner)
	case '?':
		if f := w.try(p.inner[0], place, depth); f.ok {
			return f
		}
		return empty
	case '+':
		// x+ is x x*
		return w.row(empty, depth, []*piece{p.inner[0], {sign: '*', inner: p.inner}})
	case '*':
		// x* is (x x*)?
		if f := w.row(empty, depth, []*piece{p.inner[0], p}); f.ok {
			return f
		}
		return empty
	case '&', '!':
		if w.try(p.inner[0], place, depth).ok == (p.sign == '&') {
			return empty
		}
		return found{}
	}
	return w.terminal(p, place)
}

func (w *plainWalk) row(f found, depth int, items []*piece) found {
	for _, item := range items {
		next := w.try(item, f.to, depth)
		if !next.ok {
			return found{}
		}
		f = found{true, next.to, slices.Concat(f.nodes, next.nodes)}
	}
	return f
}

func (w *plainWalk) run(rule, place, depth int) found {
	w.runs++
	for _, m := range w.memories {
		m.begin(entry{rule, place})
	}
	f := w.try(w.rules[rule], place, depth+1)
	for _, m := range w.memories {
		m.end(entry{rule, place})
	}
	node := api.Node{Rule: rule, From: place, To: f.to, Depth: depth}
	f.nodes = slices.Concat([]api.Node{node}, f.nodes)
	return f
}

func (w *plainWalk) terminal(p *piece, place int) found {
	rest := w.input[place:]
	switch {
	case p.sign == '\'' && strings.HasPrefix(rest, p.text):
		return found{ok: true, to: place + len(p.text)}
	case p.sign == '[' && rest != "" && strings.Contains(p.text, rest[:1]):
		return found{ok: true, to: place + 1}
	case p.sign == '.' && rest != "":
		return found{ok: true, to: place + 1}
	}
	w.failures = append(w.failures, failure{place, p.terminal})
	return found{}
}

// answer gives what the document asks for, and whether the walk came to its end.
func (w *plainWalk) answer() (a api.Answer, ended bool) {
	defer func() {
		if what := recover(); what != nil && what != (tooMuch{}) {
			panic(what)
		}
	}()
	if f := w.run(0, 0, 0); f.ok {
		a = api.Answer{Matches: true, To: f.to, Tree: f.nodes}
	}
	a.Far = -1
	for _, f := range w.failures {
		a.Far = max(a.Far, f.place)
	}
	for _, f := range w.failures {
		if f.place == a.Far {
			a.Failed = append(a.Failed, f.terminal)
		}
	}
	slices.Sort(a.Failed)
	a.Failed = slices.Compact(a.Failed)
	return a, true
}

// madeUp gives a grammar that Check takes, as pieces and as a text.
func madeUp(random *rand.Rand) ([]*piece, string) {
	for {
		m := maker{random: random, rules: 1 + random.Intn(4)}
		var pieces []*piece
		text := ""
		for i := range m.rules {
			p := m.choice(0)
			pieces = append(pieces, p)
			text += string(rune('s'+i)) + "=" + p.write() + "\n"
		}
		if errno, _ := pegtable.Check(text); errno == api.OK {
			return pieces, text
		}
	}
}

func TestParseIsAsTheWordsTell(t *testing.T) {
	random := rand.New(rand.NewSource(1))
	ended, spent, hits := 0, 0, 0
	for range 4000 {
		pieces, grammar := madeUp(random)
		for range 4 {
			input := madeUpInput(random)
			w := plainWalk{rules: pieces, input: input, memories: madeUpMemories(random, len(pieces)*(len(input)+1))}
			want, ok := w.answer()
			switch {
			case ok && w.runs <= api.MaxRuns:
				ended++
				hits += holdAsPlain(t, grammar, &w, want)
			case w.runs > api.MaxRuns:
				spent++
				for _, c := range memories(api.MaxRuns) {
					holdSpent(t, openBy(t, grammar, c), input)
				}
			}
			if t.Failed() {
				t.Fatalf("by %q", grammar)
			}
		}
	}
	if ended < 10000 || spent < 100 || hits < 10000 {
		t.Errorf("the tests make up too few: %d that end, %d of too many runs, %d hits", ended, spent, hits)
	}
}

func madeUpInput(random *rand.Rand) string {
	input := make([]byte, random.Intn([]int{3, 10, 25}[random.Intn(3)]))
	for i := range input {
		input[i] = "aaabbc"[random.Intn(6)]
	}
	return string(input)
}

// holdAsPlain holds a parser without memory and those with one against a plain walk that ended, and gives how many hits there were.
func holdAsPlain(t *testing.T, grammar string, w *plainWalk, want api.Answer) int {
	t.Helper()
	hits := 0
	without := &pretended{stats: api.Stats{Runs: w.runs}}
	for _, m := range append(w.memories, without) {
		c := m.config
		c.Runs = w.runs
		p := openBy(t, grammar, c)
		holdParse(t, fmt.Sprintf("P6, P7: with %+v", c), p, w.input, tell(want))
		if got := p.Stats(); c.Policy != api.Direct && got != m.stats {
			t.Errorf("P7, P8: %q with %+v: Stats = %+v, want %+v", w.input, c, got, m.stats)
		}
		holdBounds(t, p.Stats(), bounds{c, len(w.rules), len(w.input), w.runs})
		hits += p.Stats().Hits
		if c.Runs--; c.Runs > 0 {
			holdSpent(t, openBy(t, grammar, c), w.input)
		}
	}
	return hits
}
