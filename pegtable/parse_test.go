package pegtable_test

import (
	"fmt"
	"strings"
	"sync"
	"testing"
	"unsafe"

	"pegtable/api"
	"pegtable/pegtable"
)

// tell writes an answer down: up to where and the nodes (rule, from, to, depth), or that it fails; Far; Failed.
func tell(a api.Answer) string {
	var nodes []string
	for _, n := range a.Tree {
		nodes = append(nodes, fmt.Sprint(n.Rule, n.From, n.To, n.Depth))
	}
	head := fmt.Sprintf("%d; %s", a.To, strings.Join(nodes, ", "))
	if !a.Matches {
		head = "fails"
		if a.To != 0 || len(a.Tree) != 0 {
			head = fmt.Sprintf("fails with %d and %v", a.To, a.Tree)
		}
	}
	return strings.TrimSpace(fmt.Sprintf("%s; %d; %s", head, a.Far, strings.Trim(fmt.Sprint(a.Failed), "[]")))
}

func holdParse(t *testing.T, promise string, p *pegtable.Parser, input, want string) {
	t.Helper()
	a, errno := p.Parse(input)
	if got := tell(a); errno != api.OK || got != want {
		t.Errorf("%s: Parse(%q) = %q, %d, want %q", promise, input, got, errno, want)
	}
}

// isNothing tells whether an answer is all zeros, as beside an error.
func isNothing(a api.Answer) bool {
	return !a.Matches && a.To == 0 && a.Tree == nil && a.Far == 0 && a.Failed == nil
}

// parsed is a grammar, an input and what is told of it.
type parsed struct {
	grammar, input, want string
}

func holdAll(t *testing.T, rows ...parsed) {
	t.Helper()
	for _, row := range rows {
		p := open(t, row.grammar, 1000)
		// Twice: what an answer tells does not hang on the one ahead.
		for range 2 {
			holdParse(t, fmt.Sprintf("P6: by %q", row.grammar), p, row.input, row.want)
		}
	}
}

func TestParseTheDocumentsExamples(t *testing.T) {
	nested, not := "s = 'a' s 'b' / ''\n", "s = !'a' . / 'ab'\n"
	holdAll(t,
		parsed{nested, "aabb", "4; 0 0 4 0, 0 1 3 1, 0 2 2 2; 2; 0"},
		parsed{nested, "aab", "0; 0 0 0 0; 3; 1"},
		parsed{not, "ab", "2; 0 0 2 0; -1;"},
		parsed{not, "b", "1; 0 0 1 0; 0; 0"},
		parsed{"s = t 'x' / t 'y'\nt = 'a'+\n", "aay", "3; 0 0 3 0, 1 0 2 1; 2; 0 2"},
	)
}

func TestParseLiterals(t *testing.T) {
	long := strings.Repeat("x", 60)
	holdAll(t,
		parsed{"s='ab'\n", "ab", "2; 0 0 2 0; -1;"},
		parsed{"s='ab'\n", "abab", "2; 0 0 2 0; -1;"},
		parsed{"s='ab'\n", "aab", "fails; 0; 0"},
		parsed{"s='ab'\n", "a", "fails; 0; 0"},
		parsed{"s='ab'\n", "", "fails; 0; 0"},
		parsed{"s='a''bc'\n", "abd", "fails; 1; 1"},
		parsed{"s=''\n", "", "0; 0 0 0 0; -1;"},
		parsed{"s=''\n", "x", "0; 0 0 0 0; -1;"},
		parsed{"s='x'''''\n", "x", "1; 0 0 1 0; -1;"},
		parsed{"s='\\n\\'\\\\\\]\\-'\n", "\n'\\]-", "5; 0 0 5 0; -1;"},
		parsed{"s='\x00\xff'\n", "\x00\xff", "2; 0 0 2 0; -1;"},
		parsed{"s='\xc3'\n", "é", "1; 0 0 1 0; -1;"},
		parsed{"s='A'\n", "a", "fails; 0; 0"},
		parsed{"s=' '\n", " ", "1; 0 0 1 0; -1;"},
		parsed{"s='" + long + "'\n", long, "60; 0 0 60 0; -1;"},
		parsed{"s='" + long + "x'\n", long, "fails; 0; 0"},
	)
}

func TestParseClasses(t *testing.T) {
	holdAll(t,
		parsed{"s=[b-d]\n", "a", "fails; 0; 0"},
		parsed{"s=[b-d]\n", "b", "1; 0 0 1 0; -1;"},
		parsed{"s=[b-d]\n", "cc", "1; 0 0 1 0; -1;"},
		parsed{"s=[b-d]\n", "d", "1; 0 0 1 0; -1;"},
		parsed{"s=[b-d]\n", "e", "fails; 0; 0"},
		parsed{"s=[b-d]\n", "", "fails; 0; 0"},
		parsed{"s=[ax-z]\n", "y", "1; 0 0 1 0; -1;"},
		parsed{"s=[ax-z]\n", "a", "1; 0 0 1 0; -1;"},
		parsed{"s=[ax-z]\n", "b", "fails; 0; 0"},
		parsed{"s=[^a]\n", "^", "1; 0 0 1 0; -1;"},
		parsed{"s=[^a]\n", "b", "fails; 0; 0"},
		parsed{"s=[\\n]\n", "\n", "1; 0 0 1 0; -1;"},
		parsed{"s=[\\]\\-\\\\]+\n", "]-\\n", "3; 0 0 3 0; 3; 0"},
		parsed{"s=[\x00-\xff]+\n", "\x00\x7f\x80\xff", "4; 0 0 4 0; 4; 0"},
		parsed{"s=[\x80-\xff]\n", "\x7f", "fails; 0; 0"},
	)
}

func TestParseAnyByte(t *testing.T) {
	holdAll(t,
		parsed{"s=.\n", "\n", "1; 0 0 1 0; -1;"},
		parsed{"s=..\n", "\x00\xff", "2; 0 0 2 0; -1;"},
		parsed{"s=..\n", "é", "2; 0 0 2 0; -1;"},
		parsed{"s=.\n", "", "fails; 0; 0"},
		parsed{"s=..\n", "a", "fails; 1; 1"},
		parsed{"s=!.\n", "", "0; 0 0 0 0; 0; 0"},
		parsed{"s=!.\n", "a", "fails; -1;"},
	)
}

func TestParseSequencesAndChoices(t *testing.T) {
	holdAll(t,
		parsed{"s='a''b''c'\n", "abcd", "3; 0 0 3 0; -1;"},
		parsed{"s='a''b''c'\n", "abd", "fails; 2; 2"},
		parsed{"s='a'/'b'/'c'\n", "a", "1; 0 0 1 0; -1;"},
		parsed{"s='a'/'b'/'c'\n", "b", "1; 0 0 1 0; 0; 0"},
		parsed{"s='a'/'b'/'c'\n", "c", "1; 0 0 1 0; 0; 0 1"},
		parsed{"s='a'/'b'/'c'\n", "d", "fails; 0; 0 1 2"},
		// The first way that fits is taken, and no other is asked for, even if nothing goes on behind it.
		parsed{"s='a'/'ab'\n", "ab", "1; 0 0 1 0; -1;"},
		parsed{"s=('a'/'ab')'c'\n", "abc", "fails; 1; 2"},
		parsed{"s=('ab'/'a')'c'\n", "ac", "2; 0 0 2 0; 0; 0"},
		parsed{"s=''/'a'\n", "a", "0; 0 0 0 0; -1;"},
		// Each way begins at the same place.
		parsed{"s='a''a''x'/'a''a''y'/'a'\n", "aaz", "1; 0 0 1 0; 2; 2 5"},
		parsed{"s=(((('a'/'b')'c')/'d')'e')\n", "bce", "3; 0 0 3 0; 0; 0"},
		parsed{"s=(((((.)))))\n", "a", "1; 0 0 1 0; -1;"},
	)
}

func TestParseRepeats(t *testing.T) {
	holdAll(t,
		parsed{"s='a'?\n", "a", "1; 0 0 1 0; -1;"},
		parsed{"s='a'?\n", "aa", "1; 0 0 1 0; -1;"},
		parsed{"s='a'?\n", "b", "0; 0 0 0 0; 0; 0"},
		parsed{"s='a'?\n", "", "0; 0 0 0 0; 0; 0"},
		parsed{"s='a'*\n", "", "0; 0 0 0 0; 0; 0"},
		parsed{"s='a'*\n", "aaab", "3; 0 0 3 0; 3; 0"},
		parsed{"s='ab'*\n", "ababa", "4; 0 0 4 0; 4; 0"},
		parsed{"s='a'+\n", "", "fails; 0; 0"},
		parsed{"s='a'+\n", "b", "fails; 0; 0"},
		parsed{"s='a'+\n", "ab", "1; 0 0 1 0; 1; 0"},
		parsed{"s='a'+\n", "aaa", "3; 0 0 3 0; 3; 0"},
		// None gives back what it has taken.
		parsed{"s='a'?'a'\n", "a", "fails; 1; 1"},
		parsed{"s='a'*'a'\n", "aa", "fails; 2; 0 1"},
		parsed{"s='a'+'a'\n", "aa", "fails; 2; 0 1"},
		// A way that fails within is left whole.
		parsed{"s=('a''b')?'a'\n", "ac", "1; 0 0 1 0; 1; 1"},
		parsed{"s=('a''b')*'a'\n", "ababac", "5; 0 0 5 0; 5; 1"},
		parsed{"s=('a''b')+'a'\n", "abac", "3; 0 0 3 0; 3; 1"},
		parsed{"s=('a'/'b'+)*\n", "abbba", "5; 0 0 5 0; 5; 0 1"},
		parsed{"s=('a'?)'b'?\n", "", "0; 0 0 0 0; 0; 0 1"},
	)
}

func TestParseLooks(t *testing.T) {
	holdAll(t,
		parsed{"s=&'ab''a'\n", "ab", "1; 0 0 1 0; -1;"},
		parsed{"s=&'ab''a'\n", "ac", "fails; 0; 0"},
		parsed{"s=!'ab''a'\n", "ac", "1; 0 0 1 0; 0; 0"},
		parsed{"s=!'ab''a'\n", "ab", "fails; -1;"},
		// The sign ahead is of what is repeated.
		parsed{"s=&'a'*.\n", "aa", "1; 0 0 1 0; 2; 0"},
		parsed{"s=&'a'+.\n", "b", "fails; 0; 0"},
		parsed{"s=&'a'?\n", "b", "0; 0 0 0 0; 0; 0"},
		parsed{"s=!'a'?\n", "b", "fails; 0; 0"},
		parsed{"s=!'a'*/.\n", "aab", "1; 0 0 1 0; 2; 0"},
		parsed{"s=!'a'+.\n", "b", "1; 0 0 1 0; 0; 0"},
		// What fails within counts, farther on too, and whether or not the look does.
		parsed{"s=&('a''b''c'/'a')'a'\n", "abd", "1; 0 0 1 0; 2; 2"},
		parsed{"s=!('a''b''c')'a'\n", "abd", "1; 0 0 1 0; 2; 2"},
		parsed{"s=!(.'b'/.)/'a'\n", "ac", "1; 0 0 1 0; 1; 1"},
		parsed{"s=&(&'a'.)!(!'a').\n", "a", "1; 0 0 1 0; -1;"},
		parsed{"s=!(!'a').\n", "b", "fails; 0; 0"},
		parsed{"s=&('a'!'b')\n", "a", "0; 0 0 0 0; 1; 1"},
	)
}

func TestParseTrees(t *testing.T) {
	holdAll(t,
		parsed{"s=t u\nt='a'\nu=t'b'\n", "aab", "3; 0 0 3 0, 1 0 1 1, 2 1 3 1, 1 1 2 2; -1;"},
		parsed{"s=u\nt=''\nu=t\n", "x", "0; 0 0 0 0, 2 0 0 1, 1 0 0 2; -1;"},
		parsed{"s=t*\nt='a'u?\nu='b'\n", "abaab", "5; 0 0 5 0, 1 0 2 1, 2 1 2 2, 1 2 3 1, 1 3 5 1, 2 4 5 2; 5; 0"},
		parsed{"s=t+'c'\nt='a'/'b'\n", "abc", "3; 0 0 3 0, 1 0 1 1, 1 1 2 1; 2; 1 2"},
		parsed{"s=(t u)*.\nt='a'\nu='b'\n", "abac", "3; 0 0 3 0, 1 0 1 1, 2 1 2 1; 3; 2"},
		parsed{"s=(t u)+t\nt='a'\nu='b'\n", "abac", "3; 0 0 3 0, 1 0 1 1, 2 1 2 1, 1 2 3 1; 3; 1"},
		parsed{"s=(t u)?t\nt='a'\nu='b'\n", "ac", "1; 0 0 1 0, 1 0 1 1; 1; 1"},
		parsed{"s=t u/t\nt='a'\nu='b'\n", "ac", "1; 0 0 1 0, 1 0 1 1; 1; 1"},
		parsed{"s=t u/v\nt='a'w\nu='b'\nv='a'w\nw=''\n", "ac", "1; 0 0 1 0, 3 0 1 1, 4 1 1 2; 1; 1"},
		// Nothing of what stands within a look.
		parsed{"s=&t'a'\nt='a'u\nu=''\n", "a", "1; 0 0 1 0; -1;"},
		parsed{"s=!t'a'/u\nt='a'u\nu='a'\n", "aa", "1; 0 0 1 0, 2 0 1 1; -1;"},
		parsed{"s=!t u\nt='b'u\nu='a'\n", "a", "1; 0 0 1 0, 2 0 1 1; 0; 0"},
		parsed{"s=&(t u)v\nt='a'\nu='b'\nv=&t t u\n", "ab", "2; 0 0 2 0, 3 0 2 1, 1 0 1 2, 2 1 2 2; -1;"},
		// Nothing at all if the first rule fails.
		parsed{"s=t t\nt='a'\n", "ab", "fails; 1; 0"},
		parsed{"s=t*'x'\nt='a'\n", "aa", "fails; 2; 0 1"},
	)
}

func TestParseTellsTheFarthestFailure(t *testing.T) {
	holdAll(t,
		parsed{"s='ab'\n", "ab", "2; 0 0 2 0; -1;"},
		parsed{"s=!''/.\n", "a", "1; 0 0 1 0; -1;"},
		parsed{"s=!''\n", "", "fails; -1;"},
		// The same terminal at the same place for a second and a third time.
		parsed{"s=t 'x'/t 'y'/t 'z'\nt=u\nu='a'+\n", "aaw", "fails; 2; 0 1 2 3"},
		parsed{"s=&t!t t/'b'\nt='a'\n", "b", "1; 0 0 1 0; 0; 1"},
		parsed{"s=!t!t!t'b'\nt='a'\n", "b", "1; 0 0 1 0; 0; 1"},
		// What failed ahead of the farthest place doesn't count, tried earlier or later.
		parsed{"s='x'/'a''b'/'y'/'z'\n", "ac", "fails; 1; 2"},
		parsed{"s=u/t\nt='b'\nu='a''b''c'/'a''x'\n", "abd", "fails; 2; 3"},
		// A literal fails where it begins, however many of its bytes stand there.
		parsed{"s='abcd'/'a''x'\n", "abce", "fails; 1; 2"},
		// Numbers go through all rules, by their places in the text, not as they are tried.
		parsed{"s=v/u/t\nt=[t]\nu=.'u'\nv=.'v'\n", "a", "fails; 1; 2 4"},
		parsed{"s=" + strings.Repeat("'b'/", 39) + ".\n", "", "fails; 0; " + numbers(40)},
		parsed{"s=" + strings.Repeat("'b'/", 38) + ".'b'\n", "a", "fails; 1; 39"},
		parsed{"s=(((('a'*'b'/'a')*'b'/'a')*'b'/'a')*'b'/'a')*'c'\n", "aaa", "fails; 3; " + numbers(10)},
	)
}

// numbers writes the numbers from 0 on.
func numbers(many int) string {
	var all []int
	for i := range many {
		all = append(all, i)
	}
	return strings.Trim(fmt.Sprint(all), "[]")
}

func TestParseBoundsTheInput(t *testing.T) {
	p := open(t, "s=.*\n", 10)
	for _, length := range []int{0, 1, 59, 60} {
		holdParse(t, "P6", p, strings.Repeat("x", length), fmt.Sprintf("%d; 0 0 %d 0; %d; 0", length, length, length))
	}
	for _, length := range []int{61, 62, 1000, 5_000_000} {
		a, errno := p.Parse(strings.Repeat("x", length))
		if errno != api.ErrLong || !isNothing(a) {
			t.Errorf("P1, P6: Parse of %d bytes = %v, %d", length, a, errno)
		}
		if got := p.Stats(); got != (api.Stats{}) {
			t.Errorf("P8: Stats behind ErrLong = %+v", got)
		}
	}
	holdParse(t, "P6: behind errors", p, "x", "1; 0 0 1 0; 1; 0")
	// ErrLong is named ahead of ErrSpent.
	if _, errno := open(t, "s=t\nt=''\n", 1).Parse(strings.Repeat("x", 61)); errno != api.ErrLong {
		t.Errorf("P1: an input too long, and too many runs: %d", errno)
	}
}

func TestParseGivesListsThatAreTheCallers(t *testing.T) {
	p := open(t, "s=(t/u)*\nt='a'\nu='b'\n", 100)
	want := "2; 0 0 2 0, 1 0 1 1, 2 1 2 1; 2; 0 1"
	first, _ := p.Parse("ab")
	second, _ := p.Parse("ab")
	scribble(first)
	if got := tell(second); got != want {
		t.Errorf("P2: writing into one answer changed another: %q", got)
	}
	holdParse(t, "P2: behind writing into an answer", p, "ab", want)
	if got, want := p.Stats(), (api.Stats{Runs: 6}); got != want {
		t.Errorf("P8: Stats = %+v, want %+v", got, want)
	}
}

// scribble writes into all of an answer's lists, and into their spare room.
func scribble(a api.Answer) {
	for i := range a.Tree[:cap(a.Tree)] {
		a.Tree[:cap(a.Tree)][i] = api.Node{Rule: 9, From: 9, To: 9, Depth: 9}
	}
	for i := range a.Failed[:cap(a.Failed)] {
		a.Failed[:cap(a.Failed)][i] = 9
	}
}

func TestParseKeepsNothingOfTheInput(t *testing.T) {
	room := []byte("aab")
	p := open(t, "s='a's/.\n", 10)
	want := "3; 0 0 3 0, 0 1 3 1, 0 2 3 2; 2; 0"
	a, _ := p.Parse(unsafe.String(&room[0], len(room)))
	if string(room) != "aab" {
		t.Errorf("P2: the input was written into: %q", room)
	}
	copy(room, "xyz")
	if got := tell(a); got != want {
		t.Errorf("P2: an answer changed with the input: %q", got)
	}
	holdParse(t, "P2", p, "aab", want)
	holdParse(t, "P2", p, unsafe.String(&room[0], len(room)), "1; 0 0 1 0; 0; 0")
}

func TestParsersBesideOneAnother(t *testing.T) {
	var wait sync.WaitGroup
	for i := range 8 {
		p := open(t, "s='a's/''\n", 100)
		wait.Go(func() {
			for range 50 {
				if a, errno := p.Parse(strings.Repeat("a", i)); errno != api.OK || a.To != i || len(a.Tree) != i+1 {
					t.Errorf("P2: Parse of %d bytes = %v, %d", i, a, errno)
				}
				if got, want := p.Stats(), (api.Stats{Runs: i + 1}); got != want {
					t.Errorf("P2, P8: Stats = %+v, want %+v", got, want)
				}
			}
		})
	}
	wait.Wait()
}
