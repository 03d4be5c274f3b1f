package pegtable_test

import (
	"fmt"
	"math/rand"
	"runtime"
	"slices"
	"strings"
	"testing"
	"unsafe"

	"pegtable/api"
	"pegtable/pegtable"
)

// tellMany writes answers down; an answer of Parse for each input is told alike.
func tellMany(answers []api.Answer) string {
	var all []string
	for _, a := range answers {
		all = append(all, tell(a))
	}
	return strings.Join(all, "\n")
}

// parseEach gives Parse's answers, each by a parser of its own.
func parseEach(t *testing.T, grammar string, c api.Config, inputs ...string) []api.Answer {
	t.Helper()
	var answers []api.Answer
	for _, input := range inputs {
		a, errno := openBy(t, grammar, c).Parse(input)
		if errno != api.OK {
			t.Fatalf("P7: Parse(%q) by %q with %+v: %d", input, grammar, c, errno)
		}
		answers = append(answers, a)
	}
	return answers
}

func holdMany(t *testing.T, p *pegtable.Parser, want []api.Answer, inputs ...string) {
	t.Helper()
	answers, errno := p.Many(inputs...)
	if errno != api.OK || len(answers) != len(inputs) || tellMany(answers) != tellMany(want) {
		t.Errorf("P9: Many(%.40q) = %s, %d, want %s", inputs, tellMany(answers), errno, tellMany(want))
	}
}

func holdManyError(t *testing.T, p *pegtable.Parser, want api.Errno, inputs ...string) {
	t.Helper()
	if answers, errno := p.Many(inputs...); errno != want || answers != nil {
		t.Errorf("P1, P9: Many(%.40q) = %v, %d, want %d", inputs, answers, errno, want)
	}
}

func TestManyAnswersAsParse(t *testing.T) {
	inputs := rememberedInputs()
	slices.Reverse(inputs)
	// Inputs that stand there more than once, next to one another and not.
	inputs = append(inputs, "aay", "aaaaaaab", "aaaaaaab", "b", "b")
	for _, grammar := range remembering() {
		for _, c := range append(configs(30, api.MaxRuns), memories(api.MaxRuns)...) {
			p := openBy(t, grammar, c)
			want := parseEach(t, grammar, c, inputs...)
			for range 2 {
				holdMany(t, p, want, inputs...)
			}
		}
	}
}

func TestManyMadeUpInputs(t *testing.T) {
	random := rand.New(rand.NewSource(2))
	spent, ended := 0, 0
	for range 2000 {
		_, grammar := madeUp(random)
		var inputs []string
		for range random.Intn(21) {
			inputs = append(inputs, madeUpInput(random))
		}
		most := []int{10, 100, api.MaxRuns}[random.Intn(3)]
		for _, m := range madeUpMemories(random, 20) {
			c := m.config
			c.Runs = most
			p := openBy(t, grammar, c)
			if isSpent(t, grammar, most, inputs...) {
				spent++
				holdManyError(t, p, api.ErrSpent, inputs...)
				continue
			}
			ended++
			holdMany(t, p, parseEach(t, grammar, api.Config{Runs: most}, inputs...), inputs...)
		}
		if t.Failed() {
			t.Fatalf("by %q", grammar)
		}
	}
	if spent < 1000 || ended < 1000 {
		t.Errorf("the tests make up too few: %d with too many runs, %d without", spent, ended)
	}
}

// isSpent tells whether too many runs is Parse's answer, without memory, for one of them.
func isSpent(t *testing.T, grammar string, runs int, inputs ...string) bool {
	p := open(t, grammar, runs)
	return slices.ContainsFunc(inputs, func(input string) bool {
		_, errno := p.Parse(input)
		return errno == api.ErrSpent
	})
}

func TestManyBoundsTheInputs(t *testing.T) {
	full, long := strings.Repeat("x", 60), strings.Repeat("x", 61)
	for _, c := range memories(1) {
		grammar := "s=.*\n"
		p := openBy(t, grammar, c)
		holdMany(t, p, nil)
		holdMany(t, p, nil, []string{}...)
		for _, many := range []int{1, 2, 19, 20} {
			for _, input := range []string{"", "x", full} {
				inputs := slices.Repeat([]string{input}, many)
				holdMany(t, p, parseEach(t, grammar, c, inputs...), inputs...)
			}
			// Too long, at each place among others.
			for i := range many {
				inputs := slices.Repeat([]string{"x"}, many)
				inputs[i] = long
				holdManyError(t, p, api.ErrLong, inputs...)
			}
		}
		for _, many := range []int{21, 22, 100_000} {
			holdManyError(t, p, api.ErrLong, make([]string, many)...)
		}
		holdManyError(t, p, api.ErrLong, strings.Repeat("x", 5_000_000))
		holdManyError(t, p, api.ErrLong, slices.Repeat([]string{long}, 21)...)
		holdMany(t, p, parseEach(t, grammar, c, "x"), "x")
	}
}

func TestManyIsSpentWhereOneInputIs(t *testing.T) {
	long := strings.Repeat("a", 61)
	for _, c := range memories(4) {
		grammar := "s='a's/''\n"
		p := openBy(t, grammar, c)
		for _, many := range []int{1, 2, 20} {
			just := slices.Repeat([]string{"aaa"}, many)
			holdMany(t, p, parseEach(t, grammar, c, just...), just...)
			for i := range many {
				inputs := slices.Clone(just)
				inputs[i] = "aaaa"
				holdManyError(t, p, api.ErrSpent, inputs...)
				// ErrLong is named first, wherever it stands.
				inputs[many-1-i] = long
				holdManyError(t, p, api.ErrLong, inputs...)
			}
			holdManyError(t, p, api.ErrSpent, slices.Repeat([]string{"aaaa"}, many)...)
		}
		holdManyError(t, p, api.ErrLong, slices.Repeat([]string{"aaaa"}, 21)...)
		holdMany(t, p, parseEach(t, grammar, c, "aaa", ""), "aaa", "")
	}
}

func TestManyLeavesStatsAsTheyAre(t *testing.T) {
	for _, c := range memories(6) {
		p := openBy(t, "s=t'x'/t'y'/t\nt='a't/''\n", c)
		manyOfEachKind := func(when string) {
			t.Helper()
			before := p.Stats()
			for _, inputs := range [][]string{nil, {"", ""}, {"x", "y", "y"}, {"aaaaaa"}, {"a", strings.Repeat("a", 61)}, make([]string, 21)} {
				p.Many(inputs...)
				if got := p.Stats(); got != before {
					t.Errorf("P9: with %+v, %s: Stats behind Many(%.20q) = %+v, want %+v", c, when, inputs, got, before)
				}
			}
		}
		manyOfEachKind("ahead of the first Parse")
		p.Parse("ay")
		if p.Stats() == (api.Stats{}) {
			t.Errorf("P8: with %+v: Stats are all zeros", c)
		}
		manyOfEachKind("behind a Parse")
		holdSpent(t, p, "aaaaaa")
		manyOfEachKind("behind ErrSpent")
		// Nor does what Many remembered help the next Parse.
		fresh := openBy(t, "s=t'x'/t'y'/t\nt='a't/''\n", c)
		p.Many("ay", "ay")
		p.Parse("ay")
		fresh.Parse("ay")
		if p.Stats() != fresh.Stats() {
			t.Errorf("P8: with %+v: Stats of a Parse behind Many = %+v, want %+v", c, p.Stats(), fresh.Stats())
		}
	}
}

func TestManyHoweverTheGoroutinesRun(t *testing.T) {
	defer runtime.GOMAXPROCS(runtime.GOMAXPROCS(0))
	grammar := remembering()[3]
	var inputs []string
	for i := range 20 {
		inputs = append(inputs, strings.Repeat("a", i/2)+strings.Repeat("b", i%2))
	}
	for _, processors := range []int{1, 2, 3, 8} {
		runtime.GOMAXPROCS(processors)
		for _, c := range memories(api.MaxRuns) {
			p := openBy(t, grammar, c)
			want := parseEach(t, grammar, c, inputs...)
			for range 50 {
				holdMany(t, p, want, inputs...)
			}
		}
	}
}

// walksUnderWay gives what all goroutines are at, if one of them is in the program still.
func walksUnderWay() string {
	room := make([]byte, 1<<20)
	all := string(room[:runtime.Stack(room, true)])
	if strings.Contains(all, "pegtable/walk.") || strings.Contains(all, "pegtable/memory.") {
		return all
	}
	return ""
}

func TestManyLeavesNoGoroutine(t *testing.T) {
	// Some inputs are spent at once by what is allowed, some take all of it, some come to their end.
	slow := strings.Repeat("a", 60)
	grammar := "s='x'/&t'a's'x'/&t'a's/''\nt=" + strings.Repeat("&'a'*", 30) + "\n"
	for _, c := range memories(api.MaxRuns) {
		p := openBy(t, grammar, c)
		for _, inputs := range [][]string{{"x", "aaaaa", slow[:9]}, {slow, slow}, {"x", slow, "x"}, {slow, "x", slow, ""}, {slow + "a", slow}} {
			p.Many(inputs...)
			if all := walksUnderWay(); all != "" {
				t.Fatalf("P9: with %+v: behind Many(%.20q): %s", c, inputs, all)
			}
		}
	}
}

func TestManyGivesListsThatAreTheCallers(t *testing.T) {
	grammar := "s=(t/u)*\nt='a'\nu='b'v\nv=''\n"
	inputs := []string{"ab", "ab", "", "ab", "ba"}
	for _, c := range memories(100) {
		p := openBy(t, grammar, c)
		want := parseEach(t, grammar, c, inputs...)
		for i := range inputs {
			answers, errno := p.Many(inputs...)
			if errno != api.OK || len(answers) != len(inputs) {
				t.Fatalf("P9: %d answers, %d", len(answers), errno)
			}
			scribble(answers[i])
			answers[i] = want[i]
			if tellMany(answers) != tellMany(want) {
				t.Errorf("P2: with %+v: writing into the lists of answer %d changed others", c, i)
			}
			for j := range answers[:cap(answers)] {
				answers[:cap(answers)][j] = api.Answer{To: 9}
			}
			holdMany(t, p, want, inputs...)
			holdParse(t, "P2: behind writing into an answer", p, inputs[i], tell(want[i]))
		}
	}
}

func TestManyKeepsNothingOfTheInputs(t *testing.T) {
	room := []byte("aabb")
	text := unsafe.String(&room[0], len(room))
	list := []string{text[:2], text[2:], text, "spare", "room"}
	grammar := "s='a's/.\n"
	for _, c := range memories(10) {
		copy(room, "aabb")
		p := openBy(t, grammar, c)
		want := tellMany(parseEach(t, grammar, c, "aa", "bb", "aabb"))
		answers, _ := p.Many(list[:3]...)
		if string(room) != "aabb" || list[0] != "aa" || list[1] != "bb" || list[2] != "aabb" || list[3] != "spare" || list[4] != "room" {
			t.Errorf("P2: the inputs were written into: %q", list)
		}
		copy(room, "xyza")
		if tellMany(answers) != want {
			t.Errorf("P2: answers changed with the inputs")
		}
		holdMany(t, p, parseEach(t, grammar, c, "xy", "za", "xyza"), list[:3]...)
	}
}

func TestManyOfParsersBesideOneAnother(t *testing.T) {
	done := make(chan string)
	for i := range 8 {
		grammar := fmt.Sprintf("s='%c's/''\n", 'a'+i)
		p := openBy(t, grammar, api.Config{Policy: api.Oldest, Budget: 3, Mask: 1, Runs: 100})
		want := tellMany(parseEach(t, grammar, api.Config{Runs: 100}, "aaa", "bbb", "ccc"))
		go func() {
			wrong := ""
			for range 50 {
				answers, errno := p.Many("aaa", "bbb", "ccc")
				if got := tellMany(answers); errno != api.OK || got != want {
					wrong = fmt.Sprintf("by %q: %s, %d, want %s", grammar, got, errno, want)
				}
			}
			done <- wrong
		}()
	}
	for range 8 {
		if wrong := <-done; wrong != "" {
			t.Errorf("P2, P9: %s", wrong)
		}
	}
}
