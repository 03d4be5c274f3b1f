package pegtable_test

import (
	"math"
	"strings"
	"testing"
	"unsafe"

	"pegtable/api"
	"pegtable/pegtable"
)

// open gives a parser without memory; the test ends if there is none.
func open(t *testing.T, grammar string, runs int) *pegtable.Parser {
	t.Helper()
	return openBy(t, grammar, api.Config{Runs: runs})
}

func openBy(t *testing.T, grammar string, c api.Config) *pegtable.Parser {
	t.Helper()
	p, errno := pegtable.Open(grammar, c)
	if p == nil || errno != api.OK {
		t.Fatalf("P5: Open(%q, %v) = %v, %d", grammar, c, p, errno)
	}
	return p
}

func holdOpen(t *testing.T, promise, grammar string, c api.Config, want api.Errno) {
	t.Helper()
	p, errno := pegtable.Open(grammar, c)
	if errno != want || (p != nil) != (want == api.OK) {
		t.Errorf("%s: Open(%.40q, %+v) = %v, %d, want %d", promise, grammar, c, p, errno, want)
	}
}

func TestBoundsOfConfigStandInAPI(t *testing.T) {
	got := []int{api.None, api.Direct, api.Oldest, api.MaxBudget, api.MaxRuns, api.MaxInput}
	for i, want := range []int{0, 1, 2, 1000, 20000, 60} {
		if got[i] != want {
			t.Errorf("number %d is %d, want %d", i, got[i], want)
		}
	}
}

func TestOpenHoldsEachBound(t *testing.T) {
	for _, c := range []struct {
		name        string
		set         func(c *api.Config, n int)
		least, most int
	}{
		{"Policy", func(c *api.Config, n int) { c.Policy = n }, 0, 2},
		{"Budget", func(c *api.Config, n int) { c.Budget = n }, 0, 1000},
		{"Mask", func(c *api.Config, n int) { c.Mask = n }, 0, 255},
		{"Runs", func(c *api.Config, n int) { c.Runs = n }, 1, 20000},
	} {
		for _, others := range []api.Config{{Runs: 1}, {Policy: 2, Budget: 1000, Mask: 255, Runs: 20000}, {Policy: 1, Budget: 7, Mask: 2, Runs: 50}} {
			hold := func(n int, want api.Errno) {
				config := others
				c.set(&config, n)
				holdOpen(t, "P5: "+c.name, "s=.\n", config, want)
			}
			for n := c.least; n <= c.most; n++ {
				hold(n, api.OK)
			}
			for _, n := range []int{c.least - 1, c.most + 1, -c.most, c.most + 1<<32, math.MinInt, math.MaxInt} {
				if n < c.least || n > c.most {
					hold(n, api.ErrConfig)
				}
			}
		}
	}
}

func TestOpenHasTheErrorOfCheckFirst(t *testing.T) {
	good := api.Config{Policy: 2, Budget: 1000, Mask: 255, Runs: 20000}
	wrong := []api.Config{{}, {Policy: 3, Runs: 1}, {Budget: -1, Runs: 1}, {Mask: 256, Runs: 1}, {Runs: 20001}}
	for _, c := range []struct {
		text string
		want api.Errno
	}{
		{strings.Repeat(" ", 401), api.ErrLong},
		{strings.Repeat("a", 5_000_000), api.ErrLong},
		{"", api.ErrText},
		{"s=.", api.ErrText},
		{rules(9), api.ErrText},
		{"s=t\n", api.ErrName},
		{"s=.\ns=.\n", api.ErrName},
		{"s=s\n", api.ErrLoop},
		{"s=''*\n", api.ErrLoop},
	} {
		holdOpen(t, "P5", c.text, good, c.want)
		for _, config := range wrong {
			holdOpen(t, "P1, P5", c.text, config, c.want)
		}
	}
	for _, config := range wrong {
		holdOpen(t, "P1, P5", rules(8), config, api.ErrConfig)
	}
	holdOpen(t, "P5", rules(8), good, api.OK)
}

func TestOpenKeepsNothingOfTheText(t *testing.T) {
	// A grammar over bytes that can be changed shows whether the parser still reads them.
	room := []byte("abc='xy' d\nd=[p-q]\n")
	before := string(room)
	p := open(t, unsafe.String(&room[0], len(room)), 10)
	if string(room) != before {
		t.Errorf("P2: the text was written into: %q", room)
	}
	for i := range room {
		room[i] = '-'
	}
	holdParse(t, "P2", p, "xyq", "3; 0 0 3 0, 1 2 3 1; -1;")
}

func TestParsersDoNotTouchOneAnother(t *testing.T) {
	first, second := open(t, "s='a's/''\n", 10), open(t, "s='b'\n", 10)
	holdParse(t, "P2", first, "aa", "2; 0 0 2 0, 0 1 2 1, 0 2 2 2; 2; 0")
	if got := second.Stats(); got != (api.Stats{}) {
		t.Errorf("P2, P8: Stats of a parser that parsed nothing = %+v", got)
	}
	holdParse(t, "P2", second, "aa", "fails; 0; 0")
	if got, want := first.Stats(), (api.Stats{Runs: 3}); got != want {
		t.Errorf("P2, P8: Stats = %+v, want %+v", got, want)
	}
}
