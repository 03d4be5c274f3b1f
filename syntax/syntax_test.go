package syntax

import (
	"reflect"
	"testing"

	"pegtable/api"
)

func TestReadGivesTheTree(t *testing.T) {
	g, errno, at := Read("a = 'x\\n' b? / &[a-c\\]]* !(. / '')\n b = .+\n")
	if errno != api.OK || at != 0 {
		t.Fatalf("Read = %d, %d", errno, at)
	}
	literal := &Part{Kind: Literal, Terminal: 0, Text: "x\n"}
	class := &Part{Kind: Class, Terminal: 1, Ranges: []Range{{'a', 'c'}, {']', ']'}}}
	bracket := partOf(Choice, partOf(Sequence, &Part{Kind: Any, Terminal: 2}), partOf(Sequence, &Part{Kind: Literal, Terminal: 3}))
	want := &Grammar{Brackets: 1, Rules: []Rule{
		{"a", 0, partOf(Choice,
			partOf(Sequence, literal, partOf(Optional, &Part{Kind: Name, Rule: 1})),
			partOf(Sequence, partOf(And, partOf(Star, class)), partOf(Not, bracket)))},
		{"b", 36, partOf(Choice, partOf(Sequence, partOf(Plus, &Part{Kind: Any, Terminal: 4})))},
	}}
	if !reflect.DeepEqual(g, want) {
		t.Errorf("the tree of a grammar is another")
	}
}

func TestReadNumbersTheBrackets(t *testing.T) {
	g, errno, _ := Read("a=(.(.))(b)\nb=((.))\n")
	if errno != api.OK {
		t.Fatalf("Read: %d", errno)
	}
	seen := make([]int, g.Brackets)
	var count func(p *Part)
	count = func(p *Part) {
		for _, inner := range p.Parts {
			if inner.Kind == Choice {
				seen[inner.Bracket]++
			}
			count(inner)
		}
	}
	for _, rule := range g.Rules {
		count(rule.Choice)
	}
	if want := []int{1, 1, 1, 1, 1}; !reflect.DeepEqual(seen, want) {
		t.Errorf("brackets by their numbers: %v, want %v", seen, want)
	}
}

func TestReadReadsEscapes(t *testing.T) {
	g, errno, _ := Read("a='\\n\\'\\\\\\]\\-'[\\n-\\'\\--\\\\\\]]\n")
	if errno != api.OK {
		t.Fatalf("Read: %d", errno)
	}
	items := g.Rules[0].Choice.Parts[0].Parts
	if items[0].Text != "\n'\\]-" {
		t.Errorf("the literal is %q", items[0].Text)
	}
	if want := []Range{{'\n', '\''}, {'-', '\\'}, {']', ']'}}; !reflect.DeepEqual(items[1].Ranges, want) {
		t.Errorf("the class is %v, want %v", items[1].Ranges, want)
	}
}

func TestReadGivesNoTreeWithAnError(t *testing.T) {
	for _, text := range []string{"", "a=.", "a=b\n", "a=a\n", string(make([]byte, 401))} {
		if g, errno, _ := Read(text); g != nil || errno == api.OK {
			t.Errorf("Read(%.20q) gave a tree, or no error: %d", text, errno)
		}
	}
}
