package walk

import (
	"testing"

	"pegtable/api"
	"pegtable/syntax"
)

func groundOf(t *testing.T, grammar string, c api.Config) *Ground {
	t.Helper()
	g, errno, _ := syntax.Read(grammar)
	if errno != api.OK {
		t.Fatalf("Read(%q): %d", grammar, errno)
	}
	return NewGround(g, c)
}

func TestWhatIsCutOffIsNotKept(t *testing.T) {
	for _, c := range []struct {
		grammar string
		live    int
	}{
		// All four runs are under way when the fourth is one too many.
		{"s='a's/''\n", 0},
		// The second run of s is one too many: t and u have ended by then.
		{"s=t s/''\nt='a'u\nu=''\n", 2},
	} {
		for _, policy := range []int{api.Direct, api.Oldest} {
			g := groundOf(t, c.grammar, api.Config{Policy: policy, Budget: 100, Mask: 255, Runs: 3})
			if _, _, ok := g.Walk(0, "aaaa"); ok {
				t.Errorf("P7: %q: not spent", c.grammar)
			}
			if got := g.MemoryStats().Live; got != c.live {
				t.Errorf("%q: %d entries, want %d", c.grammar, got, c.live)
			}
		}
	}
}

func TestInputsOfOneGroundDoNotMix(t *testing.T) {
	for _, policy := range []int{api.Direct, api.Oldest} {
		g := groundOf(t, "s='a's/''\n", api.Config{Policy: policy, Budget: 1000, Mask: 255, Runs: 100})
		for number, input := range []string{"aaa", "a", "", "aaa"} {
			a, runs, ok := g.Walk(number, input)
			if !ok || a.To != len(input) || runs != len(input)+1 {
				t.Errorf("P9: input %d, %q: %v, %d runs, %t", number, input, a, runs, ok)
			}
		}
		// Of each run at a place of each input there is an entry, and none was found.
		if got, want := g.MemoryStats(), (api.Stats{Live: 11, Peak: 11}); got != want {
			t.Errorf("P8: %+v, want %+v", got, want)
		}
	}
}
