package pegtable_test

import (
	"strings"
	"testing"

	"pegtable/api"
	"pegtable/pegtable"
)

// answer is what Check answers for a text.
type answer struct {
	text  string
	errno api.Errno
	at    int
}

func holdCheck(t *testing.T, promise string, answers ...answer) {
	t.Helper()
	for _, want := range answers {
		if errno, at := pegtable.Check(want.text); errno != want.errno || at != want.at {
			t.Errorf("%s: Check(%.80q) = %d, %d, want %d, %d", promise, want.text, errno, at, want.errno, want.at)
		}
	}
}

// rules gives that many rules, of four bytes each.
func rules(many int) string {
	var b strings.Builder
	for i := range many {
		b.WriteByte(byte('a' + i))
		b.WriteString("=.\n")
	}
	return b.String()
}

func TestBoundsStandInAPI(t *testing.T) {
	got := []int{api.MaxGrammar, api.MaxRules, api.MaxName, api.MaxTerminals, api.MaxDepth}
	for i, want := range []int{400, 8, 8, 40, 5} {
		if got[i] != want {
			t.Errorf("bound %d is %d, want %d", i, got[i], want)
		}
	}
}

func TestCheckTakesGrammars(t *testing.T) {
	for _, text := range []string{
		"a = 'x'\n",
		"a='x'\n",
		"   a   =   'x'   \n   b   =   a   \n",
		"a = 'x'b[y].('z')'w'\nb=.\n",
		"a = 'x' / 'y' 'z' / ''\n",
		"a='x'/'y''z'/''\n",
		"a = & 'x' ? ! . * ( 'y' / [z] ) +\n",
		"a=&'x'?!.*('y'/[z])+\n",
		"a = ''\n",
		"a = ' '\n",
		"a = '=/&!?*+.()[]-'\n",
		"a = '\\n\\'\\\\\\]\\-'\n",
		"a = '\x00\t\r\x7f\x80\xff'\n",
		"a = [ ]\n",
		"a = [=/&!?*+.()[']\n",
		"a = [\\n\\'\\\\\\]\\-]\n",
		"a = [\x00-\xff]\n",
		"a = [a-zA-Z0-9_]\n",
		"a = [a-a]\n",
		"a = [\\n-\\'\\--\\\\\\\\-\\]\\]-\\]]\n",
		"a = [b - a]\n",
		"a = [[-\\]]\n",
		"a = [\\]-^]\n",
		"a = [\\--.]\n",
		"a = [,-\\-]\n",
		"a = [\xff-\xff]\n",
		"a = 'x' a / 'y'\n",
		"s = 'a' s 'b' / word\nword = [a-z]+ !.\n",
	} {
		holdCheck(t, "P3", answer{text, api.OK, 0})
	}
}

func TestCheckBounds(t *testing.T) {
	dots := strings.Repeat(".", api.MaxTerminals)
	halfDots := strings.Repeat(".", api.MaxTerminals/2)
	holdCheck(t, "P3 MaxGrammar",
		answer{"a='" + strings.Repeat("x", 395) + "'\n", api.OK, 0},
		answer{"a='" + strings.Repeat("x", 396) + "'\n", api.ErrLong, 0},
		answer{strings.Repeat(" ", 396) + "a=.\n", api.OK, 0},
		answer{strings.Repeat(" ", 397) + "a=.\n", api.ErrLong, 0},
		answer{strings.Repeat(" ", 400), api.ErrText, 400},
		answer{strings.Repeat(" ", 401), api.ErrLong, 0},
		answer{"a='" + strings.Repeat("x", 397), api.ErrText, 400},
		answer{strings.Repeat("x", 10_000_000), api.ErrLong, 0},
	)
	holdCheck(t, "P3 MaxName",
		answer{"abcdefgh=.\n", api.OK, 0},
		answer{"abcdefghi=.\n", api.ErrText, 8},
		answer{"  abcdefghi=.\n", api.ErrText, 10},
		answer{"abcdefgh =abcdefgh .\n", api.ErrLoop, 0},
		answer{"a=.abcdefgh\nabcdefgh=.\n", api.OK, 0},
		answer{"a=.abcdefghi\n", api.ErrText, 11},
		answer{"a=abcdefgh", api.ErrText, 10},
		answer{"a=abcdefgh\n", api.ErrName, 2},
	)
	holdCheck(t, "P3 MaxRules",
		answer{rules(8), api.OK, 0},
		answer{rules(9), api.ErrText, 32},
		answer{rules(8) + " ", api.ErrText, 32},
		answer{rules(8) + "\n", api.ErrText, 32},
		answer{rules(8) + " i=.\n", api.ErrText, 32},
		answer{rules(7) + " ", api.ErrText, 29},
		answer{rules(7) + "  h = .  \n", api.OK, 0},
	)
	holdCheck(t, "P3 MaxTerminals",
		answer{"a=" + dots + "\n", api.OK, 0},
		answer{"a=" + dots + ".\n", api.ErrText, 42},
		answer{"a=" + dots + " .\n", api.ErrText, 43},
		answer{"a=" + dots + "'x'\n", api.ErrText, 42},
		answer{"a=" + dots + "[x]\n", api.ErrText, 42},
		answer{"a=" + dots + "&.\n", api.ErrText, 43},
		answer{"a=" + dots + "/( .\n", api.ErrText, 45},
		answer{"a=" + dots + "/!(a)?\n", api.ErrLoop, 0},
		answer{"a=" + dots + "!(a)?\n", api.OK, 0},
		answer{"a=" + halfDots + "\nb=" + halfDots + "\n", api.OK, 0},
		answer{"a=" + halfDots + "\nb=" + halfDots + ".\n", api.ErrText, 45},
		answer{"a=" + strings.Repeat("''", 20) + strings.Repeat("[x]", 20) + "\n", api.OK, 0},
		answer{"a=" + strings.Repeat("''", 20) + strings.Repeat("[x]", 20) + ".\n", api.ErrText, 102},
		answer{"a='" + dots + dots + "'[" + dots + dots + "]\n", api.OK, 0},
	)
	holdCheck(t, "P3 MaxDepth",
		answer{"a=(((((.)))))\n", api.OK, 0},
		answer{"a=((((((.))))))\n", api.ErrText, 7},
		answer{"a=( ( ( ( ( (.))))))\n", api.ErrText, 12},
		answer{"a=(((((.))))) (((((.)))))\n", api.OK, 0},
		answer{"a=((((.)(.)/(.))))\n", api.OK, 0},
		answer{"a=((((.(.)(.(\n", api.ErrText, 12},
		answer{"a='(((((('[((((((]\n", api.OK, 0},
	)
}

func TestCheckTellsWhereTheTextIsWrong(t *testing.T) {
	holdCheck(t, "P3 ErrText",
		answer{"\n", api.ErrText, 0},
		answer{"=", api.ErrText, 0},
		answer{"1", api.ErrText, 0},
		answer{"\x00", api.ErrText, 0},
		answer{"A=.\n", api.ErrText, 0},
		answer{" 'x'", api.ErrText, 1},
		answer{"a b=.\n", api.ErrText, 2},
		answer{"aB=.\n", api.ErrText, 1},
		answer{"a\n", api.ErrText, 1},
		answer{"a==.\n", api.ErrText, 2},
		answer{"a=\n", api.ErrText, 2},
		answer{"a=  \n", api.ErrText, 4},
		answer{"a=/.\n", api.ErrText, 2},
		answer{"a=./\n", api.ErrText, 4},
		answer{"a=.//.\n", api.ErrText, 4},
		answer{"a=?\n", api.ErrText, 2},
		answer{"a=.?+\n", api.ErrText, 4},
		answer{"a=.* ?\n", api.ErrText, 5},
		answer{"a=.+ *\n", api.ErrText, 5},
		answer{"a=!&.\n", api.ErrText, 3},
		answer{"a=! !.\n", api.ErrText, 4},
		answer{"a=&?\n", api.ErrText, 3},
		answer{"a=!\n", api.ErrText, 3},
		answer{"a=()\n", api.ErrText, 3},
		answer{"a=(\n", api.ErrText, 3},
		answer{"a=(.\n", api.ErrText, 4},
		answer{"a=(./)\n", api.ErrText, 5},
		answer{"a=.)\n", api.ErrText, 3},
		answer{"a=(.))\n", api.ErrText, 5},
		answer{"a=]\n", api.ErrText, 2},
		answer{"a=-\n", api.ErrText, 2},
		answer{"a=.=.\n", api.ErrText, 3},
		answer{"a=b=.\n", api.ErrText, 3},
		answer{"a=.\t\n", api.ErrText, 3},
		answer{"a=.\r\n", api.ErrText, 3},
		answer{"a=.\xff\n", api.ErrText, 3},
		answer{"a=.\n\n", api.ErrText, 4},
		answer{"a=.\n \n", api.ErrText, 5},
		answer{"a=.\nb\n", api.ErrText, 5},
	)
	holdCheck(t, "P3 ErrText in literals",
		answer{"a='\n'\n", api.ErrText, 3},
		answer{"a='x\n", api.ErrText, 4},
		answer{"a='\\x'\n", api.ErrText, 4},
		answer{"a='\\\n'\n", api.ErrText, 4},
		answer{"a='\\N'\n", api.ErrText, 4},
		answer{"a='\\['\n", api.ErrText, 4},
		answer{"a='\\ '\n", api.ErrText, 4},
		answer{"a='\\'\n", api.ErrText, 5},
		answer{"a='''\n", api.ErrText, 5},
	)
	holdCheck(t, "P3 ErrText in classes",
		answer{"a=[]\n", api.ErrText, 3},
		answer{"a=[\n]\n", api.ErrText, 3},
		answer{"a=[-]\n", api.ErrText, 3},
		answer{"a=[x\n]\n", api.ErrText, 4},
		answer{"a=[x-]\n", api.ErrText, 5},
		answer{"a=[x--]\n", api.ErrText, 5},
		answer{"a=[x-\n]\n", api.ErrText, 5},
		answer{"a=[a-b-c]\n", api.ErrText, 6},
		answer{"a=[\\x]\n", api.ErrText, 4},
		answer{"a=[\\\n]\n", api.ErrText, 4},
		answer{"a=[x]]\n", api.ErrText, 5},
		answer{"a=[b-a]\n", api.ErrText, 5},
		answer{"a=[\xff-\xfe]\n", api.ErrText, 5},
		answer{"a=[b -\t]\n", api.ErrText, 6},
	)
	holdCheck(t, "P3 ErrText in ranges with escapes",
		answer{"a=[\\'-\\n]\n", api.ErrText, 7},
		answer{"a=[\\--\\']\n", api.ErrText, 7},
		answer{"a=[\\\\-\\-]\n", api.ErrText, 7},
		answer{"a=[\\]-\\\\]\n", api.ErrText, 7},
		answer{"a=[\\]-\\n]\n", api.ErrText, 7},
		answer{"a=[\\]-\\x]\n", api.ErrText, 7},
		answer{"a=[\\]-[]\n", api.ErrText, 6},
		answer{"a=[ -\\n]\n", api.ErrText, 6},
		answer{"a=[^-\\]]\n", api.ErrText, 5},
		answer{"a=[\xff-\\]]\n", api.ErrText, 5},
		answer{"a=[^-\\", api.ErrText, 5},
		answer{"a=[\\]-\\", api.ErrText, 7},
	)
}

func TestCheckTellsThatTheTextEndsTooEarly(t *testing.T) {
	for _, text := range []string{
		"a = &'x\\n' ? / ( [a-c\\]-\\]\\n] * b / ! . ) +  \n",
		"  b = 'y'  \n c=(((((b)))))\n",
	} {
		for end := range len(text) {
			if text[:end] == "" || text[end-1] != '\n' {
				holdCheck(t, "P3", answer{text[:end], api.ErrText, end})
			}
		}
	}
	holdCheck(t, "P3",
		answer{"", api.ErrText, 0},
		answer{"a=.\n  ", api.ErrText, 6},
		answer{"a=.\nb", api.ErrText, 5},
		answer{"a=[\xff-", api.ErrText, 5},
		answer{"a=" + strings.Repeat(".", 40) + "&", api.ErrText, 43},
	)
}

func TestCheckTellsTheFirstWrongName(t *testing.T) {
	holdCheck(t, "P3 ErrName",
		answer{"a=b\n", api.ErrName, 2},
		answer{"a=  b\n", api.ErrName, 4},
		answer{"ab=.a\n", api.ErrName, 4},
		answer{"a=.ab\n", api.ErrName, 3},
		answer{"a='b'/(.!([b] .(.b)))\n", api.ErrName, 17},
		answer{"a=.c b\nb=.\n", api.ErrName, 3},
		answer{"a=.b\nb=.c\n", api.ErrName, 8},
		answer{"a=.\na=.\n", api.ErrName, 4},
		answer{"a=.\n  a=.\n", api.ErrName, 6},
		answer{"a=.\nb=.\na=.\nb=.\n", api.ErrName, 8},
		answer{"a=.\na=b\n", api.ErrName, 4},
		answer{"a=b\na=.\n", api.ErrName, 2},
		answer{"a=.\nb=c\na=.\n", api.ErrName, 6},
		answer{"a=.b\nb=.a\n", api.OK, 0},
	)
}

func TestCheckTellsTheFirstRuleThatBeginsWithItself(t *testing.T) {
	holdCheck(t, "P3 ErrLoop",
		answer{"a=a\n", api.ErrLoop, 0},
		answer{"  a=a\n", api.ErrLoop, 2},
		answer{"a=./a.\n", api.ErrLoop, 0},
		answer{"a=.a\n", api.OK, 0},
		answer{"a='x'a\n", api.OK, 0},
		answer{"a=[x]a\n", api.OK, 0},
		answer{"a=''a\n", api.ErrLoop, 0},
		answer{"a=''''.a\n", api.OK, 0},
		answer{"a=.?a\n", api.ErrLoop, 0},
		answer{"a=.*a\n", api.ErrLoop, 0},
		answer{"a=.+a\n", api.OK, 0},
		answer{"a=&.a\n", api.ErrLoop, 0},
		answer{"a=!.a\n", api.ErrLoop, 0},
		answer{"a=&.+a\n", api.ErrLoop, 0},
		answer{"a=&a.\n", api.ErrLoop, 0},
		answer{"a=!a.\n", api.ErrLoop, 0},
		answer{"a=!(.a).\n", api.OK, 0},
		answer{"a=a?.\n", api.ErrLoop, 0},
		answer{"a=a*.\n", api.ErrLoop, 0},
		answer{"a=a+.\n", api.ErrLoop, 0},
		answer{"a=(.?a)*\n", api.ErrLoop, 0},
		answer{"a=(.a)*\n", api.OK, 0},
		answer{"a=((((a)))).\n", api.ErrLoop, 0},
		answer{"a=(./.?)a\n", api.ErrLoop, 0},
		answer{"a=(./..)a\n", api.OK, 0},
		answer{"a=(.?.*)a\n", api.ErrLoop, 0},
		answer{"a=(.?.)a\n", api.OK, 0},
		answer{"a=(.? (''(.?a)))\n", api.ErrLoop, 0},
		answer{"a=(.? (.(.?a)))\n", api.OK, 0},
	)
	holdCheck(t, "P3 ErrLoop by several rules",
		answer{"a=b\nb=a\n", api.ErrLoop, 0},
		answer{"a=b\nb=c\nc=d\nd=e\ne=f\nf=g\ng=h\nh=a\n", api.ErrLoop, 0},
		answer{"a=b\nb=c\nc=d\nd=e\ne=f\nf=g\ng=h\nh=.a\n", api.OK, 0},
		answer{"h=.a\ng=h\nf=g\ne=f\nd=e\nc=d\nb=c\na=b\n", api.OK, 0},
		answer{"h=a\ng=h\nf=g\ne=f\nd=e\nc=d\nb=c\na=b\n", api.ErrLoop, 0},
		answer{"a=b\n b=.?b\n", api.ErrLoop, 5},
		answer{"a=b\nb=c.\nc=b/.\n", api.ErrLoop, 4},
		answer{"a=b a\nb=.?\n", api.ErrLoop, 0},
		answer{"a=b a\nb=.\n", api.OK, 0},
		answer{"a=b a\nb=c c\nc=d\nd=''\n", api.ErrLoop, 0},
		answer{"a=b a\nb=c d\nc=''\nd=.\n", api.OK, 0},
		answer{"d=.\nc=''\nb=c d\na=b a\n", api.OK, 0},
		answer{"a=b.\nb=.a/.b\n", api.OK, 0},
		answer{"a=b a\nb=''+\n", api.ErrLoop, 0},
		answer{"a=b.\nb=''+\n", api.ErrLoop, 5},
	)
	holdCheck(t, "P3: as few rules as can be are empty",
		answer{"a=.b c\nb=.c\nc=.b\n", api.OK, 0},
		answer{"a=.(b)+\nb=c\nc=b\n", api.ErrLoop, 8},
		answer{"a=(b)*\nb=c\nc=.b/.\n", api.OK, 0},
		answer{"a=b*\nb=.b b\n", api.OK, 0},
	)
}

func TestCheckTellsTheFirstRuleThatRepeatsNothing(t *testing.T) {
	holdCheck(t, "P3 ErrLoop",
		answer{"a=''*\n", api.ErrLoop, 0},
		answer{"a=''+\n", api.ErrLoop, 0},
		answer{"a=''?\n", api.OK, 0},
		answer{"a=(.?)*\n", api.ErrLoop, 0},
		answer{"a=(.?)+\n", api.ErrLoop, 0},
		answer{"a=(.*)*\n", api.ErrLoop, 0},
		answer{"a=(.+)*\n", api.OK, 0},
		answer{"a=(.+)+\n", api.OK, 0},
		answer{"a=(&.)*\n", api.ErrLoop, 0},
		answer{"a=(!.)+\n", api.ErrLoop, 0},
		answer{"a=(./'')*\n", api.ErrLoop, 0},
		answer{"a=(''/.)*\n", api.ErrLoop, 0},
		answer{"a=(.'')*\n", api.OK, 0},
		answer{"a=(''.)*\n", api.OK, 0},
		answer{"a=(.?.*)*\n", api.ErrLoop, 0},
		answer{"a=&''*\n", api.ErrLoop, 0},
		answer{"a=!''+.\n", api.ErrLoop, 0},
		answer{"a=&.*\n", api.OK, 0},
		answer{"a=!.+\n", api.OK, 0},
		answer{"a=.(.(./!(.''+)))\n", api.ErrLoop, 0},
		answer{"a=.b+\nb=.?\n", api.ErrLoop, 0},
		answer{"a=.b*\nb=.\n", api.OK, 0},
		answer{"a=.b\n  b=.''*\n", api.ErrLoop, 7},
		answer{"a=.\nb=c c\nc=''*\nd=d\n", api.ErrLoop, 10},
		answer{"a=.\nb=b\nc=''*\n", api.ErrLoop, 4},
	)
}

func TestCheckTellsTheErrorNamedFirst(t *testing.T) {
	long := strings.Repeat(" ", 390)
	holdCheck(t, "P1",
		answer{long + "a=b\nb=(\n)))))", api.ErrLong, 0},
		answer{long + "a=b b b b\n", api.ErrName, 392},
		answer{long + "a=a a a a a\n", api.ErrLong, 0},
		answer{"a=b\nb=(\n", api.ErrText, 7},
		answer{"a=a\na=)\n", api.ErrText, 6},
		answer{"a=a\nb=c\n", api.ErrName, 6},
		answer{"a=''*\nb=b\na=.\n", api.ErrName, 10},
		answer{"a=b\n" + rules(8), api.ErrText, 32},
	)
}

func TestCheckExamples(t *testing.T) {
	holdCheck(t, "Examples",
		answer{"a = 'x'", api.ErrText, 7},
		answer{"a = b\n", api.ErrName, 4},
		answer{"a = a 'x'\n", api.ErrLoop, 0},
		answer{"a = 'x'?*\n", api.ErrText, 8},
		answer{"a = ('x'?)*\n", api.ErrLoop, 0},
		answer{"a = 'x'\na = 'y'\n", api.ErrName, 8},
		answer{"a = [b-a]\n", api.ErrText, 7},
	)
}
