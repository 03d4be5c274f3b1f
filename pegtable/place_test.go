package pegtable_test

import (
	"regexp"
	"slices"
	"strings"
	"testing"

	"pegtable/api"
	"pegtable/pegtable"
)

// The place of ErrText, held against the document's own words: the least i such that no grammar begins with the text up to and with i. What a grammar is, is told here a second time, by other means than the program's: each line is cut into tokens, and its brackets are folded from the inside out.

var (
	token  = regexp.MustCompile(`^ *(?:([a-z]+)|('(?:[^\n'\\]|\\[n'\\\]-])*')|(\[(?:[^\n\]\\-]|\\[n'\\\]-]|-)+\])|(\.)|([=/&!?*+()]))`)
	ranges = regexp.MustCompile(`^([^\n\]\\-]|\\[n'\\\]-])(?:-([^\n\]\\-]|\\[n'\\\]-]))?`)
	choice = `(?:[&!]?[NT][?*+]?)+(?:/(?:[&!]?[NT][?*+]?)+)*`
	folded = regexp.MustCompile(`\(` + choice + `\)`)
	line   = regexp.MustCompile(`^N=` + choice + `$`)
)

// shape gives a line with N for each name and T for each terminal.
func shape(text string) (string, bool) {
	var b strings.Builder
	for strings.TrimLeft(text, " ") != "" {
		m := token.FindStringSubmatch(text)
		switch {
		case m == nil || len(m[1]) > 8 || m[3] != "" && !isClass(m[3]):
			return "", false
		case m[1] != "":
			b.WriteByte('N')
		case m[5] != "":
			b.WriteString(m[5])
		default:
			b.WriteByte('T')
		}
		text = text[len(m[0]):]
	}
	return b.String(), true
}

func isClass(text string) bool {
	for text = text[1 : len(text)-1]; text != ""; {
		m := ranges.FindStringSubmatch(text)
		if m == nil || m[2] != "" && plain(m[1]) > plain(m[2]) {
			return false
		}
		text = text[len(m[0]):]
	}
	return true
}

func plain(inner string) byte {
	if inner == `\n` {
		return '\n'
	}
	return inner[len(inner)-1]
}

func depth(shape string) int {
	open, most := 0, 0
	for _, b := range shape {
		switch b {
		case '(':
			open++
		case ')':
			open--
		}
		most = max(most, open)
	}
	return most
}

func isGrammar(text string) bool {
	lines := strings.SplitAfter(text, "\n")
	last := len(lines) - 1
	if lines[last] != "" || last < 1 || last > 8 {
		return false
	}
	terminals := 0
	for _, l := range lines[:last] {
		s, ok := shape(strings.TrimSuffix(l, "\n"))
		if !ok || depth(s) > 5 {
			return false
		}
		terminals += strings.Count(s, "T")
		for folded.MatchString(s) {
			s = folded.ReplaceAllString(s, "N")
		}
		if !line.MatchString(s) {
			return false
		}
	}
	return terminals <= 40
}

// endings: whatever a text stops in, if a grammar begins with it, one of these makes it one.
func endings() []string {
	all := []string{""}
	for _, head := range []string{"", "a", "=a", "a=a", "'", "n'", "a]", "]", "\xff]", "n]", "]]"} {
		for brackets := range 6 {
			all = append(all, head+strings.Repeat(")", brackets)+"\n")
		}
	}
	return all
}

// oracle remembers of which texts it was asked.
type oracle struct {
	ends  []string
	known map[string]bool
}

func (o *oracle) begins(text string) bool {
	begins, ok := o.known[text]
	if !ok {
		begins = slices.ContainsFunc(o.ends, func(end string) bool { return isGrammar(text + end) })
		o.known[text] = begins
	}
	return begins
}

func (o *oracle) place(text string) int {
	for i := range len(text) {
		if !o.begins(text[:i+1]) {
			return i
		}
	}
	return len(text)
}

func (o *oracle) hold(t *testing.T, text string) {
	t.Helper()
	errno, at := pegtable.Check(text)
	if isGrammar(text) {
		if errno == api.ErrText || errno == api.ErrLong {
			t.Errorf("P3: Check(%q) = %d, %d, but it is a grammar", text, errno, at)
		}
		return
	}
	if want := o.place(text); errno != api.ErrText || at != want {
		t.Errorf("P3: Check(%q) = %d, %d, want %d, %d", text, errno, at, api.ErrText, want)
	}
}

const signs = "az =/&!?*+.()[]-'\\n\n~\xff"

// holdAll goes on, by as many signs as more says, from each text with which a grammar begins.
func (o *oracle) holdAll(t *testing.T, start string, more int) {
	for _, sign := range []byte(signs) {
		text := start + string([]byte{sign})
		o.hold(t, text)
		if more > 1 && o.begins(text) {
			o.holdAll(t, text, more-1)
		}
	}
}

func TestPlaceInAllShortTexts(t *testing.T) {
	o := oracle{endings(), map[string]bool{}}
	for _, start := range []string{"", "a=", "a=[", "a=[\\]"} {
		o.holdAll(t, start, 3)
	}
	dots := strings.Repeat(".", 39)
	for _, start := range []string{"a=.\n", "a='", "a=[z", "a=((((", rules(7), rules(7) + "h=.", "abcdefg", "a=bcdefgh", "a=" + dots} {
		o.holdAll(t, start, 2)
	}
}

func TestPlaceInGrammarsWithOneChange(t *testing.T) {
	o := oracle{endings(), map[string]bool{}}
	for _, text := range []string{
		"a = &'x\\n' ? / ( [a-c\\]-\\]\\n] * b / ! . ) +  \n b='\\\\'\n",
		"a=(((((b)))/b)c)\nb=[\\--z'-'^]\nc=b b\n",
		rules(8),
	} {
		o.hold(t, text)
		for i := range len(text) {
			o.hold(t, text[:i]+text[i+1:])
			o.hold(t, text[:i]+text[i:i+1]+text[i:])
			for _, b := range []byte(signs + "\x00\t\rA0_\x7f\x80") {
				o.hold(t, text[:i]+string([]byte{b})+text[i:])
				o.hold(t, text[:i]+string([]byte{b})+text[i+1:])
			}
		}
	}
}
