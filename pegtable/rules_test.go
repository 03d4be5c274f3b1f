package pegtable_test

import (
	"slices"
	"strings"
	"sync"
	"testing"
	"unsafe"

	"pegtable/api"
	"pegtable/pegtable"
)

func TestRulesInOrder(t *testing.T) {
	for _, c := range []struct {
		text string
		want []string
	}{
		{"a=.\n", []string{"a"}},
		{"b=.\na=.\n", []string{"b", "a"}},
		{"  zz  = a 'y'\n a=.\nabcdefgh = !a\n", []string{"zz", "a", "abcdefgh"}},
		{rules(8), []string{"a", "b", "c", "d", "e", "f", "g", "h"}},
	} {
		if got, errno := pegtable.Rules(c.text); errno != api.OK || !slices.Equal(got, c.want) {
			t.Errorf("P4: Rules(%q) = %q, %d, want %q", c.text, got, errno, c.want)
		}
	}
}

func TestRulesHasTheErrorOfCheck(t *testing.T) {
	for _, c := range []struct {
		text string
		want api.Errno
	}{
		{strings.Repeat(" ", 401), api.ErrLong},
		{strings.Repeat("a", 5_000_000), api.ErrLong},
		{"", api.ErrText},
		{"a=.", api.ErrText},
		{"a=.\n)", api.ErrText},
		{rules(9), api.ErrText},
		{"a=.\na=.\n", api.ErrName},
		{"a=.\nb=c\n", api.ErrName},
		{"a=.\nb=b\n", api.ErrLoop},
		{"a=.\nb=''*\n", api.ErrLoop},
	} {
		if got, errno := pegtable.Rules(c.text); errno != c.want || got != nil {
			t.Errorf("P1, P4: Rules(%.80q) = %q, %d, want nil, %d", c.text, got, errno, c.want)
		}
	}
}

func TestRulesGivesAListThatIsTheCallers(t *testing.T) {
	text := "abc=.\nb=.\n"
	want := []string{"abc", "b"}
	first, _ := pegtable.Rules(text)
	second, _ := pegtable.Rules(text)
	for _, list := range [][]string{first[:cap(first)], second[:cap(second)]} {
		for i := range list {
			list[i] = "-"
		}
		third, errno := pegtable.Rules(text)
		if errno != api.OK || !slices.Equal(third, want) {
			t.Errorf("P2: after writing into a list: Rules = %q, %d", third, errno)
		}
		if errno, at := pegtable.Check(text); errno != api.OK || at != 0 {
			t.Errorf("P2: after writing into a list: Check = %d, %d", errno, at)
		}
	}
}

func TestRulesListsDoNotShare(t *testing.T) {
	text := "abc=.\nb=.\n"
	first, _ := pegtable.Rules(text)
	second, _ := pegtable.Rules(text)
	for i := range first[:cap(first)] {
		first[:cap(first)][i] = "-"
	}
	if !slices.Equal(second, []string{"abc", "b"}) {
		t.Errorf("P2: writing into one list changed another: %q", second)
	}
}

func TestRulesKeepsNothingOfTheText(t *testing.T) {
	// A text over bytes that can be changed shows whether the names are pieces of it.
	room := []byte("abc=.\nb=.\n")
	before := slices.Clone(room)
	got, _ := pegtable.Rules(unsafe.String(&room[0], len(room)))
	if !slices.Equal(room, before) {
		t.Errorf("P2: the text was written into: %q", room)
	}
	for i := range room {
		room[i] = '-'
	}
	if !slices.Equal(got, []string{"abc", "b"}) {
		t.Errorf("P2: the names share memory with the text: %q", got)
	}
}

func TestCallsDoNotTouchOneAnother(t *testing.T) {
	good, wrong := "abc=.\nb=.\n", "a=.\nb=b\n"
	var wait sync.WaitGroup
	for range 8 {
		wait.Go(func() {
			for range 200 {
				if got, errno := pegtable.Rules(good); errno != api.OK || !slices.Equal(got, []string{"abc", "b"}) {
					t.Errorf("P2: Rules(%q) = %q, %d", good, got, errno)
				}
				if errno, at := pegtable.Check(wrong); errno != api.ErrLoop || at != 4 {
					t.Errorf("P2: Check(%q) = %d, %d", wrong, errno, at)
				}
			}
		})
	}
	wait.Wait()
}
