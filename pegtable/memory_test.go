package pegtable_test

import (
	"fmt"
	"strings"
	"testing"

	"pegtable/api"
)

// bounds is what P8's bounds hang on: the configuration, how many rules the grammar has, the input's length, and the runs that P7 counts.
type bounds struct {
	config              api.Config
	rules, length, runs int
}

// holdBounds asks for what P8 says of every Parse without an error.
func holdBounds(t *testing.T, s api.Stats, b bounds) {
	t.Helper()
	all := b.rules * (b.length + 1)
	mask := b.config.Mask & (1<<b.rules - 1)
	if b.config.Policy == api.None || b.config.Budget == 0 || mask == 0 {
		if want := (api.Stats{Runs: b.runs}); s != want {
			t.Errorf("P8: with %+v: Stats = %+v, want %+v", b, s, want)
		}
		return
	}
	if s.Live < 0 || s.Live > s.Peak || s.Peak > b.config.Budget || s.Peak > all {
		t.Errorf("P8: with %+v: Live and Peak in %+v", b, s)
	}
	if s.Runs < 1 || s.Runs > b.runs || s.Hits < 0 || (s.Runs < b.runs) != (s.Hits > 0) {
		t.Errorf("P8: with %+v: Runs and Hits in %+v", b, s)
	}
	if b.config.Policy == api.Oldest && b.config.Budget >= all && mask == 1<<b.rules-1 && s.Runs > all {
		t.Errorf("P8: with %+v: a rule is run twice at a place: %+v", b, s)
	}
}

// remembering are grammars that come by the same rules at the same places again.
func remembering() []string {
	return []string{
		"s = t 'x' / t 'y'\nt = 'a'+\n",
		"s='a's'b'/'a's'c'/''\n",
		"s=t t t/t t/t\nt=u u/u\nu='a'/'b'\n",
		"s=t'c'/t'b'/t'a'/t\nt=u'c'/u'b'/u\nu='a'u/'a'\n",
		"s=(&t u/.)*\nt='a'u\nu='a'u/'b'\n",
		// A rule that fails is remembered too, and what it failed at.
		"s=t/!t u/u\nt='a''b''x'/'b'\nu=t/.u/''\n",
		// The same tree at several depths.
		"s=u'x'/v'x'/w\nt='a't/''\nu=t\nv=u\nw=v\n",
		"s=!(t'x')(t'y'/&(t)v t?)\nt='a'('b'/t)*\nu=t\nv=!u'c'/t\n",
		"s=a/b/c/d/e/f/g\na=b'x'\nb=c'x'\nc=d'x'\nd=e'x'\ne=f'x'\nf=g'x'\ng='a'g/'b'g/''\n",
	}
}

func rememberedInputs() []string {
	return []string{"", "a", "b", "ab", "aay", "aabb", "abab", "aaaaac", "aaaaaaab", "aaabbbccc", "\x00\xffa"}
}

// configs are of all policies, budgets and masks that make a difference, where that many entries there could be.
func configs(all, runs int) []api.Config {
	var configs []api.Config
	for policy := range 3 {
		for _, budget := range []int{0, 1, 2, 3, 5, all - 1, all, all + 1, api.MaxBudget} {
			for _, mask := range []int{0, 1, 2, 3, 4, 6, 127, 128, 254, 255} {
				configs = append(configs, api.Config{Policy: policy, Budget: budget, Mask: mask, Runs: runs})
			}
		}
	}
	return configs
}

func TestMemoryIsNotNoticed(t *testing.T) {
	for _, grammar := range remembering() {
		rules := strings.Count(grammar, "\n")
		for _, input := range rememberedInputs() {
			plain := open(t, grammar, api.MaxRuns)
			a, errno := plain.Parse(input)
			if errno != api.OK {
				t.Fatalf("P7: %q by %q: %d", input, grammar, errno)
			}
			want, runs := tell(a), plain.Stats().Runs
			for _, c := range configs(rules*(len(input)+1), runs) {
				p := openBy(t, grammar, c)
				holdParse(t, fmt.Sprintf("P7: by %q with %+v", grammar, c), p, input, want)
				holdBounds(t, p.Stats(), bounds{c, rules, len(input), runs})
				if c.Runs--; c.Runs > 0 {
					holdSpent(t, openBy(t, grammar, c), input)
				}
			}
		}
	}
}

func TestStatsWithMemory(t *testing.T) {
	again, deep := "s = t 'x' / t 'y'\nt = 'a'+\n", "s='a's'b'/'a's'c'/''\n"
	for _, c := range []struct {
		grammar, input       string
		policy, budget, mask int
		want                 api.Stats
	}{
		{again, "aay", api.Oldest, 2, 255, api.Stats{Live: 2, Peak: 2, Hits: 1, Runs: 2}},
		{again, "aay", api.Oldest, 1, 255, api.Stats{Live: 1, Peak: 1, Hits: 1, Runs: 2}},
		{again, "aay", api.Oldest, 0, 255, api.Stats{Runs: 3}},
		{again, "aay", api.None, 2, 255, api.Stats{Runs: 3}},
		{again, "aay", api.Oldest, 8, 1, api.Stats{Live: 1, Peak: 1, Runs: 3}},
		{again, "aay", api.Oldest, 8, 2, api.Stats{Live: 1, Peak: 1, Hits: 1, Runs: 2}},
		{again, "aay", api.Oldest, 8, 252, api.Stats{Runs: 3}},
		{again, "aay", api.Direct, 8, 255, api.Stats{Live: 2, Peak: 2, Hits: 1, Runs: 2}},
		{again, "aay", api.Direct, 1, 255, api.Stats{Live: 1, Peak: 1, Hits: 1, Runs: 2}},
		// One run at each of the seven places; at all but the last two ways come by the next.
		{deep, "aaaaaa", api.None, 0, 0, api.Stats{Runs: 127}},
		{deep, "aaaaaa", api.Oldest, 7, 255, api.Stats{Live: 7, Peak: 7, Hits: 6, Runs: 7}},
		{deep, "aaaaaa", api.Oldest, 6, 1, api.Stats{Live: 6, Peak: 6, Hits: 6, Runs: 7}},
		{deep, "aaaaaa", api.Oldest, 1, 1, api.Stats{Live: 1, Peak: 1, Hits: 6, Runs: 7}},
		{deep, "aaaaaa", api.Direct, 7, 255, api.Stats{Live: 7, Peak: 7, Hits: 6, Runs: 7}},
		// The least recently used goes: with room for two, t goes for v, unless it was found behind u.
		{"s=t u v t\nt=''\nu=''\nv=''\n", "", api.Oldest, 2, 255, api.Stats{Live: 2, Peak: 2, Runs: 5}},
		{"s=t u t v t\nt=''\nu=''\nv=''\n", "", api.Oldest, 2, 255, api.Stats{Live: 2, Peak: 2, Hits: 2, Runs: 4}},
		{"s=t u t v u\nt=''\nu=''\nv=''\n", "", api.Oldest, 2, 255, api.Stats{Live: 2, Peak: 2, Hits: 1, Runs: 5}},
		// What fails is remembered, within & and ! too.
		{"s=!t!t!(t)/.\nt='b'\n", "a", api.Oldest, 4, 255, api.Stats{Live: 2, Peak: 2, Hits: 2, Runs: 2}},
	} {
		p := openBy(t, c.grammar, api.Config{Policy: c.policy, Budget: c.budget, Mask: c.mask, Runs: api.MaxRuns})
		// Thrice: the memory begins empty with each Parse.
		for range 3 {
			p.Parse(c.input)
			if got := p.Stats(); got != c.want {
				t.Errorf("P8: %+v: Stats = %+v", c, got)
			}
		}
	}
}

func TestMemoryBeginsEmptyWithEachParse(t *testing.T) {
	grammar := "s=t'x'/t'y'/t\nt='a't/u\nu='b'?\n"
	inputs := []string{"aay", "aab", "", "aay", "ab", "aay", "aay"}
	for _, c := range configs(12, 100) {
		p := openBy(t, grammar, c)
		for _, input := range inputs {
			fresh := openBy(t, grammar, c)
			want, _ := fresh.Parse(input)
			holdParse(t, fmt.Sprintf("P2: with %+v behind others", c), p, input, tell(want))
			if p.Stats() != fresh.Stats() {
				t.Errorf("P8: with %+v: Stats of %q behind others = %+v, want %+v", c, input, p.Stats(), fresh.Stats())
			}
		}
	}
}

func TestStatsWithMemoryAreZeroBehindAnError(t *testing.T) {
	for _, c := range memories(3) {
		p := openBy(t, "s='a's/'b'\n", c)
		if got := p.Stats(); got != (api.Stats{}) {
			t.Errorf("P8: Stats ahead of the first Parse = %+v", got)
		}
		for range 2 {
			holdParse(t, "P6", p, "aab", "3; 0 0 3 0, 0 1 3 1, 0 2 3 2; 2; 0")
			if p.Stats().Runs != 3 {
				t.Errorf("P8: with %+v: Stats = %+v", c, p.Stats())
			}
			holdSpent(t, p, "aaab")
			holdParse(t, "P6", p, "ac", "fails; 1; 0 1")
			p.Parse(strings.Repeat("a", 61))
			if got := p.Stats(); got != (api.Stats{}) {
				t.Errorf("P8: with %+v: Stats behind ErrLong = %+v", c, got)
			}
		}
	}
}

func TestWithRoomForAllNoRuleIsRunTwiceAtAPlace(t *testing.T) {
	// Without memory these are up to 12,291 runs.
	grammar := "s=t t/t'x'/t\nt=u'x'/u'y'/u\nu='a'u'x'/'a'u/''\n"
	for length := range 12 {
		input := strings.Repeat("a", length)
		all := 3 * (length + 1)
		for _, c := range []api.Config{{Budget: all, Mask: 7}, {Budget: all, Mask: 255}, {Budget: api.MaxBudget, Mask: 7}} {
			c.Policy, c.Runs = api.Oldest, api.MaxRuns
			p := openBy(t, grammar, c)
			if _, errno := p.Parse(input); errno != api.OK {
				t.Errorf("P7: %d bytes with %+v: %d", length, c, errno)
			}
			// s is run at the place 0 alone.
			if s := p.Stats(); s.Runs > all || s.Runs != s.Live || s.Peak != s.Live || s.Live > all-length {
				t.Errorf("P8: %d bytes with %+v: %+v", length, c, s)
			}
		}
	}
}

func TestMemoryWithTheMostEntriesOfAnInput(t *testing.T) {
	// Each of eight rules is run at each of 61 places; a, and so all that it leads to, once more.
	grammar, input := "s=&a&a.s/''\na=b\nb=c\nc=d\nd=e\ne=f\nf=g\ng=''\n", strings.Repeat("x", 60)
	all, runs := 8*61, 15*61
	for _, policy := range []int{api.Direct, api.Oldest} {
		for _, budget := range []int{1, 7, all - 1, all, all + 1, api.MaxBudget} {
			c := api.Config{Policy: policy, Budget: budget, Mask: 255, Runs: runs}
			p := openBy(t, grammar, c)
			if a, errno := p.Parse(input); errno != api.OK || a.To != 60 || len(a.Tree) != 61 {
				t.Errorf("P7: with %+v: up to %d, %d nodes, %d", c, a.To, len(a.Tree), errno)
			}
			live := min(budget, all)
			if got, want := p.Stats(), (api.Stats{Live: live, Peak: live, Hits: 61, Runs: all}); got != want {
				t.Errorf("P8: with %+v: Stats = %+v, want %+v", c, got, want)
			}
			c.Runs--
			holdSpent(t, openBy(t, grammar, c), input)
		}
	}
}

func TestListsOfAnAnswerWithMemoryAreTheCallers(t *testing.T) {
	// The same results stand in the tree more than once.
	grammar, want := "s=&(t t)t u\nt='a'v\nu=&t(t'x'/t)\nv=''\n", "2; 0 0 2 0, 1 0 1 1, 3 1 1 2, 2 1 2 1, 1 1 2 2, 3 2 2 3; 2; 1"
	for _, c := range memories(100) {
		p := openBy(t, grammar, c)
		first, _ := p.Parse("aa")
		second, _ := p.Parse("aa")
		stats := p.Stats()
		scribble(first)
		if got := tell(second); got != want {
			t.Errorf("P2: with %+v: writing into one answer changed another: %q", c, got)
		}
		if p.Stats() != stats {
			t.Errorf("P2: with %+v: writing into an answer changed Stats: %+v", c, p.Stats())
		}
		holdParse(t, "P2: behind writing into an answer", p, "aa", want)
	}
}
