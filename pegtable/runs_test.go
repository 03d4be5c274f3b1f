package pegtable_test

import (
	"fmt"
	"strings"
	"testing"
	"time"

	"pegtable/api"
	"pegtable/pegtable"
)

// memories are configurations of each kind; which one a parser has must not be seen in what it answers.
func memories(runs int) []api.Config {
	return []api.Config{
		{Runs: runs},
		{Policy: api.Direct, Budget: 1, Mask: 255, Runs: runs},
		{Policy: api.Direct, Budget: 1000, Mask: 255, Runs: runs},
		{Policy: api.Oldest, Budget: 0, Mask: 255, Runs: runs},
		{Policy: api.Oldest, Budget: 2, Mask: 2, Runs: runs},
		{Policy: api.Oldest, Budget: 1000, Mask: 255, Runs: runs},
	}
}

// holdSpent asks for ErrSpent, and for nothing beside it.
func holdSpent(t *testing.T, p *pegtable.Parser, input string) {
	t.Helper()
	a, errno := p.Parse(input)
	if errno != api.ErrSpent || !isNothing(a) {
		t.Errorf("P1, P7: Parse(%q) = %q, %d, want ErrSpent", input, tell(a), errno)
	}
	if got := p.Stats(); got != (api.Stats{}) {
		t.Errorf("P8: Stats behind ErrSpent = %+v", got)
	}
}

// holdRuns asks for OK with that many runs allowed, for ErrSpent with one less, and for this number in Stats.
func holdRuns(t *testing.T, grammar, input string, runs int) {
	t.Helper()
	for _, allowed := range []int{runs, min(runs+1, api.MaxRuns), api.MaxRuns} {
		p := open(t, grammar, allowed)
		if _, errno := p.Parse(input); errno != api.OK {
			t.Errorf("P7: %q by %q with %d runs: %d", input, grammar, allowed, errno)
		}
		if got, want := p.Stats(), (api.Stats{Runs: runs}); got != want {
			t.Errorf("P7, P8: %q by %q: Stats = %+v, want %+v", input, grammar, got, want)
		}
		for _, c := range memories(allowed) {
			if _, errno := openBy(t, grammar, c).Parse(input); errno != api.OK {
				t.Errorf("P7: %q by %q with %+v: %d", input, grammar, c, errno)
			}
		}
	}
	if runs == 1 {
		return
	}
	for _, c := range memories(runs - 1) {
		holdSpent(t, openBy(t, grammar, c), input)
	}
}

func TestRunsAreCounted(t *testing.T) {
	for _, c := range []struct {
		grammar, input string
		runs           int
	}{
		{"s='a'\n", "a", 1},
		{"s='a'\n", "b", 1},
		{"s=t\nt='a'\n", "b", 2},
		{"s='a's/''\n", strings.Repeat("a", 60), 61},
		// As often as it is tried: in each way, in each repeat, the last of which fails.
		{"s=t'x'/t'y'\nt='a'+\n", "aay", 3},
		{"s=t*\nt='a'\n", "aaa", 5},
		{"s=t+\nt='a'\n", "aaa", 5},
		{"s=t+\nt='a'\n", "", 2},
		{"s=t?t?\nt='a'\n", "a", 3},
		{"s=(t)(t/t)\nt='a'\n", "ab", 4},
		// Within & and !, and in ways that are left.
		{"s=&t t\nt='a'\n", "a", 3},
		{"s=!t!t t\nt='a'\n", "b", 4},
		{"s=&(t u)'x'/t\nt='a'\nu=t\n", "aab", 5},
		{"s=t t t'x'/t\nt='a'\n", "aaa", 5},
		// What is behind a part that fails isn't tried, nor a way behind one that matches.
		{"s='x't/t/t\nt='a'\n", "a", 2},
		{"s=t u t\nt='a'\nu='b'\n", "aab", 3},
	} {
		holdRuns(t, c.grammar, c.input, c.runs)
	}
}

// times writes a part that many times, one behind the other.
func times(many int, part string) string {
	return strings.Repeat(part+" ", many)
}

func TestRunsAtTheGreatestBound(t *testing.T) {
	// A run of w counts 11, one of v 1+8*11, of u 1+4*89, of t 1+8*357; then s 1+7*2857.
	others := "\nt=" + times(8, "u") + "\nu=" + times(4, "v") + "\nv=" + times(8, "w") + "\nw=" + times(10, "x") + "\nx=''\n"
	just := "s=" + times(7, "t") + others
	holdRuns(t, just, "", api.MaxRuns)
	a, _ := open(t, just, api.MaxRuns).Parse("")
	if len(a.Tree) != api.MaxRuns {
		t.Errorf("P6: %d nodes of %d runs", len(a.Tree), api.MaxRuns)
	}
	for _, c := range memories(api.MaxRuns) {
		holdSpent(t, openBy(t, "s=x "+times(7, "t")+others, c), "")
	}
}

func TestStatsAreOfTheLastParse(t *testing.T) {
	p := open(t, "s='a's/'b'\n", 3)
	hold := func(when string, want api.Stats) {
		t.Helper()
		if got := p.Stats(); got != want {
			t.Errorf("P8: Stats %s = %+v, want %+v", when, got, want)
		}
	}
	hold("ahead of all", api.Stats{})
	holdParse(t, "P6", p, "aab", "3; 0 0 3 0, 0 1 3 1, 0 2 3 2; 2; 0")
	hold("of three runs", api.Stats{Runs: 3})
	hold("asked again", api.Stats{Runs: 3})
	holdParse(t, "P6", p, "b", "1; 0 0 1 0; 0; 0")
	hold("of one run", api.Stats{Runs: 1})
	holdParse(t, "P6", p, "ac", "fails; 1; 0 1")
	hold("of what fails", api.Stats{Runs: 2})
	holdSpent(t, p, "aaab")
	holdParse(t, "P6: behind ErrSpent", p, "ab", "2; 0 0 2 0, 0 1 2 1; 1; 0")
	hold("behind ErrSpent and OK", api.Stats{Runs: 2})
	p.Parse(strings.Repeat("a", 61))
	hold("behind ErrLong", api.Stats{})
}

// soon fails the test if work does not end within a time that is ample for all that is bounded.
func soon(t *testing.T, what string, work func()) {
	t.Helper()
	done := make(chan int)
	go func() {
		defer close(done)
		work()
	}()
	select {
	case <-done:
	case <-time.After(20 * time.Second):
		t.Fatalf("P1, P7: %s doesn't end soon", what)
	}
}

func TestVeryManyRunsAreSoonSpent(t *testing.T) {
	for _, grammar := range []string{
		"s='a's'x'/'a's'y'/'a's/''\n",
		"s=t t/t\nt=u u/u\nu=v v/v\nv=w w/w\nw=x x/x\nx='a'x'b'/'a'x'c'/'a'x/''\n",
		"s=!(t t)'x'/!(!t)'y'\nt='a't u/'a't u/''\nu='b'\n",
		"s=t*\nt='a't*t?'b'/'a't*'c'/'a'\n",
		"s=((((('a's'b'/'a')*'b'/'a')*'b'/'a')*'b'/'a')*'b'/'a')*\n",
		"s=(((((t*'b'/'a')*'b'/'a')*'b'/'a')*'b'/'a')*'b'/'a')*\nt='a'\n",
		// Of these each run is long.
		"s=&t'a's'x'/&t'a's/''\nt=" + nested + "\n",
		"s=&t'a's'x'/&t'a's/''\nt=" + unreached + "\n",
		"s=&t'a's'x'/&t'a's/''\nt=" + strings.Repeat("&'a'*", 35) + "\n",
		"s=&t'a's'x'/&t'a's/''\nt=" + strings.Repeat("('a'*'b'/", 5) + "''" + strings.Repeat(")", 5) + "\n",
	} {
		for _, c := range memories(api.MaxRuns) {
			soon(t, grammar, func() { holdSpent(t, openBy(t, grammar, c), strings.Repeat("a", 60)) })
		}
	}
}

const (
	// What repeats within what is repeated goes through the same places very often, without any run of a rule.
	nested = "((((('a'*'b'/'a')*'b'/'a')*'b'/'a')*'b'/'a')*'b'/'a')*"
	// Likewise, though there are names in it.
	unreached = "((((('a'*'b's/'a')*'b's/'a')*'b's/'a')*'b's/'a')*'b's/'a')*"
)

func TestFewRunsOfVeryManyPartsEndSoon(t *testing.T) {
	var chain []string
	for i := range 61 {
		chain = append(chain, fmt.Sprint(0, i, 60, i))
	}
	for _, c := range []struct {
		grammar, want string
		runs          int
	}{
		{"s=" + nested + "\n", "60; 0 0 60 0; 60; " + numbers(11), 1},
		{"s=" + unreached + "\n", "60; 0 0 60 0; 60; " + numbers(11), 1},
		{"s=!" + nested + "/&" + nested + "/'x'\n", "0; 0 0 0 0; 60; " + numbers(22), 1},
		{"s=&t'a's/!t/t\nt=" + nested + "'x'\n", "0; 0 0 0 0; 60; " + numbers(13)[2:], 3},
		{"s=&t.s/!.\nt=" + unreached + "\n", "60; " + strings.Join(chain, ", ") + "; 60; " + numbers(13), 122},
	} {
		soon(t, c.grammar, func() {
			p := open(t, c.grammar, c.runs)
			holdParse(t, fmt.Sprintf("P6: by %q", c.grammar), p, strings.Repeat("a", 60), c.want)
			if got, want := p.Stats(), (api.Stats{Runs: c.runs}); got != want {
				t.Errorf("P8: by %q: Stats = %+v, want %+v", c.grammar, got, want)
			}
		})
	}
}
