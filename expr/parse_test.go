package expr_test

import (
	"math"
	"slices"
	"strings"
	"testing"

	"spinnaker/api"
	"spinnaker/expr"
	"spinnaker/scan"
)

func tokens(t *testing.T, s string) []api.Token {
	t.Helper()
	l, e, at := scan.Scan(s)
	if e != api.OK {
		t.Fatalf("Scan(%.60q) = %d, %d", s, e, at)
	}
	return l
}

// parsed is the expression that a text is, all of it.
func parsed(t *testing.T, s string) []api.Node {
	t.Helper()
	l := tokens(t, s)
	x, to, e, at := expr.Parse(l, 0)
	if to != len(l) || e != api.OK || at != 0 {
		t.Fatalf("Parse(%.60q) = %v, %d, %d, %d, want all %d tokens", s, x, to, e, at, len(l))
	}
	return x
}

// parses fails the test unless a text is this expression, all of it.
func parses(t *testing.T, s string, want ...api.Node) {
	t.Helper()
	if x := parsed(t, s); !slices.Equal(x, want) {
		t.Errorf("Parse(%.60q) = %v, want %v", s, x, want)
	}
}

// refuses fails the test unless these tokens have this error from token i on, and no expression.
func refuses(t *testing.T, l []api.Token, i int, e api.Errno, at int) {
	t.Helper()
	x, to, gotE, gotAt := expr.Parse(l, i)
	if len(x) != 0 || to != 0 || gotE != e || gotAt != at {
		t.Errorf("Parse(%.80q, %d) = %v, %d, %d, %d, want %d, %d", scan.Show(l), i, x, to, gotE, gotAt, e, at)
	}
}

func fails(t *testing.T, s string, e api.Errno, at int) {
	t.Helper()
	refuses(t, tokens(t, s), 0, e, at)
}

func num(n, at int) api.Node           { return api.Node{Op: api.Num, N: n, At: at} }
func reg(name string, at int) api.Node { return api.Node{Op: api.Reg, Name: name, At: at} }
func loc(name string, at int) api.Node { return api.Node{Op: api.Loc, Name: name, At: at} }
func op(kind, at int) api.Node         { return api.Node{Op: kind, At: at} }

func of(in, name string, at int) api.Node {
	return api.Node{Op: api.Of, In: in, Name: name, At: at}
}

var binary = []struct {
	op   int
	sign string
	rank int
}{
	{api.Or, "||", 1},
	{api.And, "&&", 2},
	{api.Eq, "==", 3},
	{api.Ne, "!=", 3},
	{api.Lt, "<", 3},
	{api.Le, "<=", 3},
	{api.Add, "+", 4},
	{api.Sub, "-", 4},
	{api.Mul, "*", 5},
}

// P2.1: what is parsed.

func TestParseLeaves(t *testing.T) {
	parses(t, "a", reg("a", 0))
	parses(t, "  _x9", reg("_x9", 2))
	parses(t, "abcdefghijklmnop", reg("abcdefghijklmnop", 0))
	parses(t, "0", num(0, 0))
	parses(t, " 0042", num(42, 1))
	parses(t, "9999", num(9999, 0))
	parses(t, "t.r", of("t", "r", 0))
	parses(t, " t . r", of("t", "r", 1))
	parses(t, "((a))", reg("a", 2))
	parses(t, "(t.r)", of("t", "r", 1))
}

func TestParseOperators(t *testing.T) {
	for _, b := range binary {
		parses(t, "a "+b.sign+" 1", op(b.op, 2), reg("a", 0), num(1, 3+len(b.sign)))
		parses(t, "t.r"+b.sign+"b", op(b.op, 3), of("t", "r", 0), reg("b", 3+len(b.sign)))
	}
	parses(t, "!a", op(api.Not, 0), reg("a", 1))
	parses(t, "! !t.a", op(api.Not, 0), op(api.Not, 2), of("t", "a", 3))
	parses(t, "!(a)", op(api.Not, 0), reg("a", 2))
}

func TestParseExamples(t *testing.T) {
	parses(t, "a + b * 2", op(api.Add, 2), reg("a", 0), op(api.Mul, 6), reg("b", 4), num(2, 8))
	parses(t, "a - b - c", op(api.Sub, 6), op(api.Sub, 2), reg("a", 0), reg("b", 4), reg("c", 8))
}

// Each pair of operators: the second one takes the operand between them only if it ranks higher.
func TestParsePrecedence(t *testing.T) {
	for _, b := range binary {
		for _, c := range binary {
			s := "a " + b.sign + " b " + c.sign + " c"
			first, second := 2, 5+len(b.sign)
			a, mid, last := reg("a", 0), reg("b", 3+len(b.sign)), reg("c", 6+len(b.sign)+len(c.sign))
			switch {
			case b.rank == 3 && c.rank == 3:
				x, to, e, at := expr.Parse(tokens(t, s), 0)
				if !slices.Equal(x, []api.Node{op(b.op, first), a, mid}) || to != 3 || e != api.OK || at != 0 {
					t.Errorf("Parse(%q) = %v, %d, %d, %d", s, x, to, e, at)
				}
			case c.rank > b.rank:
				parses(t, s, op(b.op, first), a, op(c.op, second), mid, last)
			default:
				parses(t, s, op(c.op, second), op(b.op, first), a, mid, last)
			}
		}
		s := "!a" + b.sign + "!b"
		parses(t, s, op(b.op, 2), op(api.Not, 0), reg("a", 1), op(api.Not, 2+len(b.sign)), reg("b", 3+len(b.sign)))
		s = "!(a" + b.sign + "b)"
		parses(t, s, op(api.Not, 0), op(b.op, 3), reg("a", 2), reg("b", 3+len(b.sign)))
	}
}

func TestParseParentheses(t *testing.T) {
	parses(t, "(a+b)*c", op(api.Mul, 5), op(api.Add, 2), reg("a", 1), reg("b", 3), reg("c", 6))
	parses(t, "a-(b-c)", op(api.Sub, 1), reg("a", 0), op(api.Sub, 4), reg("b", 3), reg("c", 5))
	parses(t, "(a<b)<c", op(api.Lt, 5), op(api.Lt, 2), reg("a", 1), reg("b", 3), reg("c", 6))
	parses(t, "a<(b<c)", op(api.Lt, 1), reg("a", 0), op(api.Lt, 4), reg("b", 3), reg("c", 5))
	parses(t, "!((a)||(b))", op(api.Not, 0), op(api.Or, 5), reg("a", 3), reg("b", 8))
}

// ends fails the test unless an expression begins with a text's token i and ends ahead of token to.
func ends(t *testing.T, s string, i, to int, want string) {
	t.Helper()
	x, gotTo, e, at := expr.Parse(tokens(t, s), i)
	if e != api.OK || at != 0 || gotTo != to || expr.Show(x) != want {
		t.Errorf("Parse(%q, %d) = %q, %d, %d, %d, want %q, %d", s, i, expr.Show(x), gotTo, e, at, want, to)
	}
}

func TestParseEnd(t *testing.T) {
	for _, s := range []string{";", ",", "{", "}", ")", "=", "(", "!", "(b", "!b", "b", "7", "mod", "if b"} {
		ends(t, "a "+s, 0, 1, "a")
		ends(t, "7 "+s, 0, 1, "7")
		ends(t, "t.a "+s, 0, 3, "t.a")
		ends(t, "a + b "+s, 0, 3, "a + b")
		ends(t, "(a) "+s, 0, 3, "a")
		ends(t, "!a "+s, 0, 2, "!a")
	}
	ends(t, "7.a", 0, 1, "7")
	ends(t, "t.a.b", 0, 3, "t.a")
	ends(t, "(t).a", 0, 3, "t")
	ends(t, "x = a + b ; c", 2, 5, "a + b")
	ends(t, "x = a + b ; c", 4, 5, "b")
	ends(t, "x = a + b ; c", 6, 7, "c")
	ends(t, "(a + b) * c", 1, 4, "a + b")
	ends(t, "t . a + 1", 2, 5, "a + 1")
}

func TestParseSecondComparison(t *testing.T) {
	for _, c := range []string{"==", "!=", "<", "<="} {
		for _, d := range []string{"==", "!=", "<", "<="} {
			ends(t, "a "+c+" b "+d+" c", 0, 3, "a "+c+" b")
			ends(t, "a "+c+" b "+d, 0, 3, "a "+c+" b")
			ends(t, "a + b "+c+" c * b "+d+" c", 0, 7, "(a + b) "+c+" (c * b)")
			ends(t, "x && a "+c+" b "+d+" c && y", 0, 5, "x && (a "+c+" b)")
			ends(t, "a "+c+" b && c "+d+" d || e "+c+" f", 0, 11, "((a "+c+" b) && (c "+d+" d)) || (e "+c+" f)")
			ends(t, "a "+c+" (b "+d+" c)", 0, 7, "a "+c+" (b "+d+" c)")
			fails(t, "(a "+c+" b "+d+" c)", api.ErrToken, 6+len(c))
		}
	}
}

// P2.1: the errors.

func TestParseIndex(t *testing.T) {
	l := tokens(t, "a + b ;")
	for _, i := range []int{-1, -2, math.MinInt} {
		refuses(t, l, i, api.ErrArg, 0)
		refuses(t, nil, i, api.ErrArg, 0)
		refuses(t, tokens(t, ") )"), i, api.ErrArg, 0)
	}
	for _, i := range []int{4, 5, 6, 1000, math.MaxInt} {
		refuses(t, l, i, api.ErrEnd, 7)
	}
	for _, i := range []int{0, 1, math.MaxInt} {
		refuses(t, nil, i, api.ErrEnd, 0)
		refuses(t, []api.Token{}, i, api.ErrEnd, 0)
	}
	refuses(t, l, 3, api.ErrToken, 6)
	refuses(t, l, 1, api.ErrToken, 2)
}

func TestParseMissing(t *testing.T) {
	for _, b := range binary {
		fails(t, "a "+b.sign, api.ErrEnd, 2+len(b.sign))
		fails(t, "(a "+b.sign+"  \n", api.ErrEnd, 3+len(b.sign))
		fails(t, "a + b "+b.sign+" # c", api.ErrEnd, 6+len(b.sign))
	}
	fails(t, "(", api.ErrEnd, 1)
	fails(t, "!", api.ErrEnd, 1)
	fails(t, "!(!", api.ErrEnd, 3)
	fails(t, "(abc ", api.ErrEnd, 4)
	fails(t, "((a)", api.ErrEnd, 4)
	fails(t, "t.", api.ErrEnd, 2)
	fails(t, "t .  ", api.ErrEnd, 3)
	fails(t, "(0012", api.ErrEnd, 5)
	refuses(t, tokens(t, ") x +"), 1, api.ErrEnd, 5)
}

func TestParseWrongTokens(t *testing.T) {
	wrong := []string{";", ",", "{", "}", ")", ".", "=", "mod", "loc", "thread", "reg", "skip", "set", "load", "store", "cas", "fadd", "xchg", "fence", "await", "if", "else", "while", "loop", "break", "forall", "exists", "always"}
	for _, b := range binary {
		wrong = append(wrong, b.sign)
	}
	for _, s := range wrong {
		fails(t, s, api.ErrToken, 0)
		fails(t, " "+s+" a", api.ErrToken, 1)
		fails(t, "! "+s, api.ErrToken, 2)
		fails(t, "( "+s+" )", api.ErrToken, 2)
		fails(t, "t. "+s, api.ErrToken, 3)
		for _, b := range binary {
			fails(t, "a "+b.sign+" "+s+" a", api.ErrToken, 3+len(b.sign))
		}
	}
	for _, s := range []string{"7", "(", "!", "(a)"} {
		fails(t, "t. "+s, api.ErrToken, 3)
	}
	for _, s := range []string{";", ",", "{", "}", "=", "mod", "a", "7", "(", "!", "(a)"} {
		fails(t, "(a "+s, api.ErrToken, 3)
		fails(t, "(a + 7 "+s, api.ErrToken, 7)
		fails(t, "!(t.a "+s+" )", api.ErrToken, 6)
	}
	fails(t, "()", api.ErrToken, 1)
	fails(t, "(7.a)", api.ErrToken, 2)
	fails(t, "(t.a.b)", api.ErrToken, 4)
	fails(t, "a + -b", api.ErrToken, 4)
}

// Tokens that no text has: no expression may come of them.
func TestParseOddTokens(t *testing.T) {
	a := api.Token{Kind: api.Ident, Text: "a"}
	plus := api.Token{Kind: api.Sign, Text: "+", At: 1}
	for _, odd := range []api.Token{
		{},
		{Text: "b"},
		{Kind: 4, Text: "b"},
		{Kind: -1, Text: "7", N: 7},
		{Kind: math.MaxInt, Text: "("},
		{Kind: api.Ident},
		{Kind: api.Ident, Text: "7"},
		{Kind: api.Ident, Text: "("},
		{Kind: api.Ident, Text: "!"},
		{Kind: api.Ident, Text: "b c"},
		{Kind: api.Ident, Text: "\xff"},
		{Kind: api.Ident, Text: "abcdefghijklmnopq"},
		{Kind: api.Sign},
		{Kind: api.Sign, Text: "b"},
		{Kind: api.Sign, Text: "7", N: 7},
		{Kind: api.Sign, Text: "(("},
		{Kind: api.Sign, Text: "! "},
		{Kind: api.Number, Text: "10000", N: 10000},
		{Kind: api.Number, Text: "-1", N: -1},
		{Kind: api.Number, N: math.MaxInt},
		{Kind: api.Number, N: math.MinInt},
	} {
		odd.At = 5
		refuses(t, []api.Token{odd}, 0, api.ErrToken, 5)
		refuses(t, []api.Token{a, plus, odd}, 0, api.ErrToken, 5)
		refuses(t, []api.Token{a, {Kind: api.Sign, Text: ".", At: 1}, odd}, 0, api.ErrToken, 5)
	}
	for _, odd := range []api.Token{
		{Kind: api.Ident, Text: "+", At: 1},
		{Kind: api.Number, Text: "<", At: 1},
		{Text: "&&", At: 1},
		{Kind: api.Sign, Text: "> ", At: 1},
		{Kind: api.Sign, Text: "", At: 1},
		{Kind: api.Sign, Text: "!", At: 1},
		{Kind: api.Ident, Text: ".", At: 1},
	} {
		x, to, e, at := expr.Parse([]api.Token{a, odd, a}, 0)
		if !slices.Equal(x, []api.Node{reg("a", 0)}) || to != 1 || e != api.OK || at != 0 {
			t.Errorf("a %v a: %v, %d, %d, %d", odd, x, to, e, at)
		}
	}
	seven := api.Token{Kind: api.Number, Text: "any", N: 7, At: 3}
	if x, to, e, _ := expr.Parse([]api.Token{seven}, 0); !slices.Equal(x, []api.Node{num(7, 3)}) || to != 1 || e != api.OK {
		t.Error(x, to, e)
	}
}

// An offset below 0 could only become a node that is not valid.
func TestParseOddOffsets(t *testing.T) {
	for _, s := range []string{"a", "7", "!a", "(a)", "t.a", "a + b", "a < b && c"} {
		good := tokens(t, s)
		for i := range good {
			l := slices.Clone(good)
			l[i].At = -1
			x, to, e, at := expr.Parse(l, 0)
			if e == api.OK {
				if !expr.Right(x) || to > i || at != 0 {
					t.Errorf("%q with offset %d below 0: %v, %d, %d", s, i, x, to, at)
				}
			} else if e != api.ErrToken || at != -1 || len(x) != 0 || to != 0 {
				t.Errorf("%q with offset %d below 0: %v, %d, %d, %d", s, i, x, to, e, at)
			}
		}
	}
}

// P2.1: the limits.

func TestParseNesting(t *testing.T) {
	in, out := strings.Repeat("(", 30), strings.Repeat(")", 30)
	not := strings.Repeat("!", 30)
	parses(t, in+"a"+out, reg("a", 30))
	if x := parsed(t, not+"a"); len(x) != 31 || x[30] != reg("a", 30) || expr.Depth(x) != 30 {
		t.Error(x)
	}
	if x := parsed(t, strings.Repeat("!(", 15)+"a"+strings.Repeat(")", 15)); len(x) != 16 {
		t.Error(x)
	}
	fails(t, "("+in+"a"+out+")", api.ErrDeep, 30)
	fails(t, "!"+not+"a", api.ErrDeep, 30)
	fails(t, in+"!a"+out, api.ErrDeep, 30)
	fails(t, not+"(a)", api.ErrDeep, 30)
	fails(t, strings.Repeat("!(", 15)+"(a", api.ErrDeep, 30)
	fails(t, strings.Repeat("(!", 15)+"!", api.ErrDeep, 30)
	fails(t, "  "+in+" (", api.ErrDeep, 33)
	fails(t, in+"a+b*(c)"+out, api.ErrDeep, 34)
	fails(t, in+"a&&!c"+out, api.ErrDeep, 33)
	refuses(t, tokens(t, "x y "+in+"("), 2, api.ErrDeep, 34)
	// What is closed again is nested in nothing any more.
	for _, s := range []string{
		in + "a" + out + "+(b)",
		in + "a" + out + "+!b",
		in + "a" + out + "*" + in + "b" + out,
		"!!!a+" + strings.Repeat("!", 29) + "b",
		"!(a+!b)+" + strings.Repeat("(", 30) + "c" + out,
		strings.Repeat("(", 29) + "(a)+(b)+!c" + strings.Repeat(")", 29),
		strings.Repeat("(", 29) + "!a+!b*(t.c)" + strings.Repeat(")", 29),
	} {
		parsed(t, s)
	}
}

// chained is n times a, joined by +: its depth is n - 1.
func chained(n int) string {
	return strings.Repeat("a+", n-1) + "a"
}

func TestParseDepth(t *testing.T) {
	if x := parsed(t, chained(31)); len(x) != 61 || expr.Depth(x) != 30 {
		t.Error(x)
	}
	fails(t, chained(32), api.ErrDeep, 0)
	fails(t, "  "+chained(32), api.ErrDeep, 2)
	fails(t, "("+chained(32)+")", api.ErrDeep, 0)
	fails(t, "x && "+chained(31), api.ErrDeep, 0)
	fails(t, "!("+chained(31)+")", api.ErrDeep, 0)
	refuses(t, tokens(t, "await x == "+chained(32)+";"), 3, api.ErrDeep, 11)
	for _, b := range binary {
		if b.rank == 3 {
			continue
		}
		n := api.MaxDepth
		if x := parsed(t, strings.Repeat("a"+b.sign, n)+"a"); expr.Depth(x) != n {
			t.Error(b.sign, x)
		}
		fails(t, strings.Repeat("a"+b.sign, n+1)+"a", api.ErrDeep, 0)
	}
}

// product is n operands of 10 summed names each: 20 n - 1 nodes.
func product(n int) string {
	return strings.Repeat("(a+b+c+d+e+f+g+h+i+j)*", n-1) + "(a+b+c+d+e+f+g+h+i+j)"
}

func TestParseNodes(t *testing.T) {
	x := parsed(t, "!("+product(10)+")")
	if len(x) != 200 || x[0] != op(api.Not, 0) || x[199] != reg("j", 2+22*9+19) {
		t.Error(len(x), x)
	}
	fails(t, "!!("+product(10)+")", api.ErrBig, 0)
	fails(t, "a+"+product(10), api.ErrBig, 0)
	fails(t, " "+product(10)+"+a", api.ErrBig, 1)
	refuses(t, tokens(t, "x = "+product(11)+" ;"), 2, api.ErrBig, 4)
	// The depth comes first.
	fails(t, product(10)+"+"+chained(32), api.ErrDeep, 0)
	fails(t, "a"+strings.Repeat("+a", 200), api.ErrDeep, 0)
}

func TestParseFirstError(t *testing.T) {
	in := strings.Repeat("(", 30)
	fails(t, ") (", api.ErrToken, 0)
	fails(t, "(a b) + ;", api.ErrToken, 3)
	fails(t, in+"("+";", api.ErrDeep, 30)
	fails(t, in+";"+"(", api.ErrToken, 30)
	fails(t, in+"a(", api.ErrToken, 31)
	fails(t, in+"a!", api.ErrToken, 31)
	fails(t, in+"a.(", api.ErrToken, 32)
	fails(t, in+"a.!", api.ErrToken, 32)
	fails(t, in, api.ErrEnd, 30)
	fails(t, in+"a", api.ErrEnd, 31)
	// An expression that is too deep, or too big, is so only when all of it was read.
	for _, s := range []string{chained(32), product(11)} {
		fails(t, s+"+", api.ErrEnd, len(s)+1)
		fails(t, s+"+;", api.ErrToken, len(s)+1)
		fails(t, s+"+ mod", api.ErrToken, len(s)+2)
		fails(t, s+"+"+in+"(", api.ErrDeep, len(s)+31)
		fails(t, "("+s+";", api.ErrToken, len(s)+1)
		fails(t, "("+s, api.ErrEnd, len(s)+1)
	}
}

// Texts of any length end soon, with whatever error comes first.
func TestParseLong(t *testing.T) {
	a := tokens(t, "a+")
	l := slices.Repeat(a, 200000)
	refuses(t, l, 0, api.ErrEnd, 2)
	refuses(t, l[:len(l)-1], 0, api.ErrDeep, 0)
	refuses(t, append(l, api.Token{Kind: api.Sign, Text: ")", At: 9}), 0, api.ErrToken, 9)
	refuses(t, slices.Repeat(tokens(t, "("), 200000), 0, api.ErrDeep, 0)
	sums := slices.Repeat(tokens(t, "(a+b*!c)&&"), 50000)
	refuses(t, sums, 0, api.ErrEnd, 10)
	if x, to, e, at := expr.Parse(slices.Repeat(tokens(t, "a"), 200000), 0); !slices.Equal(x, []api.Node{reg("a", 0)}) || to != 1 || e != api.OK || at != 0 {
		t.Error(x, to, e, at)
	}
}

// R4: what is passed is not changed, and what a call returns is its own.

func TestParseKeepsTokens(t *testing.T) {
	l := tokens(t, "x = !a + t.b * (7 - c) ; rest")
	before := slices.Clone(l)
	x, _, _, _ := expr.Parse(l[:13], 2)
	want := slices.Clone(x)
	y, _, _, _ := expr.Parse(l[:13], 2)
	clear(y[:cap(y)])
	if !slices.Equal(l, before) || !slices.Equal(x, want) {
		t.Error(l, x)
	}
	clear(l)
	if !slices.Equal(x, want) {
		t.Error(x)
	}
}
