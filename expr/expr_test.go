package expr_test

import (
	"math"
	"slices"
	"strings"
	"testing"

	"spinnaker/api"
	"spinnaker/expr"
	"spinnaker/scan"
)

// good fails the test unless an expression is valid, of this depth and with this text.
func good(t *testing.T, l []api.Node, depth int, text string) {
	t.Helper()
	if !expr.Right(l) || expr.Depth(l) != depth || expr.Show(l) != text {
		t.Errorf("%.200v: %v, depth %d, %q, want depth %d, %q", l, expr.Right(l), expr.Depth(l), expr.Show(l), depth, text)
	}
}

// bad fails the test unless an expression is not valid.
func bad(t *testing.T, l ...api.Node) {
	t.Helper()
	if expr.Right(l) || expr.Depth(l) != -1 || expr.Show(l) != "" {
		t.Errorf("%.200v: %v, depth %d, %q, want it not to be valid", l, expr.Right(l), expr.Depth(l), expr.Show(l))
	}
}

// nots is an expression of n Nots and a name.
func nots(n int) []api.Node {
	return append(slices.Repeat([]api.Node{op(api.Not, 0)}, n), reg("a", 0))
}

// full is a complete expression of a depth with 2^(depth+1) - 1 nodes.
func full(depth int) []api.Node {
	if depth == 0 {
		return []api.Node{num(depth, 0)}
	}
	return slices.Concat([]api.Node{op(api.Mul, 0)}, full(depth-1), full(depth-1))
}

// P2.2 and P2.3: valid expressions.

func TestValidLeaves(t *testing.T) {
	good(t, []api.Node{num(0, 0)}, 0, "0")
	good(t, []api.Node{num(10, math.MaxInt)}, 0, "10")
	good(t, []api.Node{num(9999, 3)}, 0, "9999")
	good(t, []api.Node{reg("_a9", 1)}, 0, "_a9")
	good(t, []api.Node{loc("abcdefghijklmnop", 1)}, 0, "abcdefghijklmnop")
	good(t, []api.Node{of("t", "Mod", 0)}, 0, "t.Mod")
}

func TestValidOperators(t *testing.T) {
	x, y := reg("a", 4), of("t", "r", 2)
	for _, b := range binary {
		// Offsets do not have to be in any order.
		good(t, []api.Node{op(b.op, 9), x, y}, 1, "a "+b.sign+" t.r")
		good(t, []api.Node{op(b.op, 9), y, x}, 1, "t.r "+b.sign+" a")
		good(t, []api.Node{op(b.op, 0), loc("x", 0), num(7, 0)}, 1, "x "+b.sign+" 7")
		good(t, []api.Node{op(api.Not, 0), op(b.op, 0), x, y}, 2, "!(a "+b.sign+" t.r)")
		good(t, []api.Node{op(b.op, 0), op(api.Not, 0), x, op(api.Not, 0), y}, 2, "!a "+b.sign+" !t.r")
		for _, c := range binary {
			good(t, []api.Node{op(b.op, 0), op(c.op, 0), x, y, x}, 2, "(a "+c.sign+" t.r) "+b.sign+" a")
			good(t, []api.Node{op(b.op, 0), x, op(c.op, 0), x, y}, 2, "a "+b.sign+" (a "+c.sign+" t.r)")
			good(t, []api.Node{op(b.op, 0), op(c.op, 0), x, y, op(c.op, 0), y, x}, 2, "(a "+c.sign+" t.r) "+b.sign+" (t.r "+c.sign+" a)")
		}
	}
	for _, leaf := range []api.Node{num(3, 0), reg("a", 0), loc("x", 0), of("t", "a", 0)} {
		good(t, []api.Node{op(api.Not, 0), leaf}, 1, "!"+expr.Show([]api.Node{leaf}))
		good(t, []api.Node{op(api.Not, 0), op(api.Not, 0), leaf}, 2, "!!"+expr.Show([]api.Node{leaf}))
	}
}

func TestShowExamples(t *testing.T) {
	for s, want := range map[string]string{
		"a + b * 2":                     "a + (b * 2)",
		"a - b - c":                     "(a - b) - c",
		"(a+b)*2":                       "(a + b) * 2",
		"((a)) <= (007)":                "a <= 7",
		"!t.x && !(a || b)":             "!t.x && !(a || b)",
		"!(!(a))":                       "!!a",
		"a<1&&b<=2||c!=3":               "((a < 1) && (b <= 2)) || (c != 3)",
		"(((a-b)-c)-d)-e":               "(((a - b) - c) - d) - e",
		"a == 1 || b + t.c * 2 != !d-0": "(a == 1) || ((b + (t.c * 2)) != (!d - 0))",
	} {
		if got := expr.Show(parsed(t, s)); got != want {
			t.Errorf("%q is shown as %q, want %q", s, got, want)
		}
	}
}

// P2.2 and P2.3: expressions that are not valid.

func TestNotComplete(t *testing.T) {
	a := reg("a", 0)
	bad(t)
	bad(t, []api.Node{}...)
	bad(t, a, a)
	bad(t, num(1, 0), num(1, 0))
	bad(t, op(api.Not, 0))
	bad(t, op(api.Not, 0), op(api.Not, 0))
	bad(t, op(api.Not, 0), a, a)
	bad(t, a, op(api.Not, 0))
	for _, b := range binary {
		bad(t, op(b.op, 0))
		bad(t, op(b.op, 0), a)
		bad(t, op(b.op, 0), a, a, a)
		bad(t, a, op(b.op, 0), a)
		bad(t, a, a, op(b.op, 0))
		bad(t, op(b.op, 0), op(api.Not, 0), a)
		bad(t, op(b.op, 0), op(b.op, 0), a, a)
	}
}

func TestNoSuchKind(t *testing.T) {
	a := reg("a", 0)
	for _, kind := range []int{0, -1, 15, 16, 100, math.MaxInt, math.MinInt} {
		bad(t, op(kind, 0))
		bad(t, api.Node{Op: kind, Name: "a"})
		bad(t, api.Node{Op: kind, N: 1})
		bad(t, op(kind, 0), a)
		bad(t, op(kind, 0), a, a)
		bad(t, op(api.Not, 0), op(kind, 0))
		bad(t, op(api.Add, 0), a, op(kind, 0))
		bad(t, op(api.Add, 0), op(kind, 0), a)
		bad(t, a, op(kind, 0))
	}
}

// within fails the test unless a node, as an operand too, makes an expression not valid.
func within(t *testing.T, n api.Node) {
	t.Helper()
	bad(t, n)
	bad(t, op(api.Not, 0), n)
	bad(t, op(api.Add, 0), n, reg("a", 0))
	bad(t, op(api.Add, 0), reg("a", 0), n)
}

func TestWrongNumbers(t *testing.T) {
	for _, n := range []int{-1, 10000, math.MaxInt, math.MinInt} {
		within(t, num(n, 0))
	}
}

func TestWrongNames(t *testing.T) {
	for _, s := range []string{"", "0", "9a", "a b", " a", "a.b", "a\n", "\xff", "\u00e9", "abcdefghijklmnopq", "mod", "always", "thread", "(a)", "!a"} {
		within(t, reg(s, 0))
		within(t, loc(s, 0))
		within(t, of(s, "r", 0))
		within(t, of("t", s, 0))
		within(t, of(s, s, 0))
	}
}

func TestFieldsThatAreNotThere(t *testing.T) {
	for _, n := range []api.Node{
		{Op: api.Num, N: 1, Name: "a"},
		{Op: api.Num, N: 1, In: "t"},
		{Op: api.Reg, Name: "a", N: 1},
		{Op: api.Reg, Name: "a", N: -1},
		{Op: api.Reg, Name: "a", In: "t"},
		{Op: api.Loc, Name: "a", N: 1},
		{Op: api.Loc, Name: "a", In: "t"},
		{Op: api.Of, Name: "a", In: "t", N: 1},
	} {
		within(t, n)
	}
	for _, kind := range []int{api.Not, api.Add, api.Sub, api.Mul, api.Eq, api.Ne, api.Lt, api.Le, api.And, api.Or} {
		l := []api.Node{op(kind, 0), reg("a", 0), reg("b", 0)}
		if kind == api.Not {
			l = l[:2]
		}
		for _, n := range []api.Node{{N: 1}, {N: -1}, {Name: "a"}, {In: "t"}} {
			n.Op = kind
			bad(t, append([]api.Node{n}, l[1:]...)...)
			bad(t, append([]api.Node{op(api.Not, 0), n}, l[1:]...)...)
		}
	}
}

func TestOffsetsBelowZero(t *testing.T) {
	for _, at := range []int{-1, math.MinInt} {
		for _, n := range []api.Node{num(1, at), reg("a", at), loc("x", at), of("t", "a", at)} {
			within(t, n)
		}
		bad(t, op(api.Not, at), reg("a", 0))
		for _, b := range binary {
			bad(t, op(b.op, at), reg("a", 0), reg("b", 0))
			bad(t, op(api.Not, 0), op(b.op, at), reg("a", 0), reg("b", 0))
		}
	}
}

func TestValidLimits(t *testing.T) {
	good(t, nots(30), 30, strings.Repeat("!", 30)+"a")
	bad(t, nots(31)...)
	left := func(n int) []api.Node {
		return append(slices.Repeat([]api.Node{op(api.Sub, 0)}, n), slices.Repeat([]api.Node{num(1, 0)}, n+1)...)
	}
	right := func(n int) []api.Node {
		return append(slices.Repeat([]api.Node{op(api.Sub, 0), num(1, 0)}, n), num(1, 0))
	}
	good(t, left(30), 30, strings.Repeat("(", 29)+"1 - 1"+strings.Repeat(") - 1", 29))
	good(t, right(30), 30, strings.Repeat("1 - (", 29)+"1 - 1"+strings.Repeat(")", 29))
	bad(t, left(31)...)
	bad(t, right(31)...)
	bad(t, append([]api.Node{op(api.Add, 0), num(1, 0)}, right(30)...)...)
	bad(t, append([]api.Node{op(api.Add, 0)}, append(left(30), num(1, 0))...)...)
	// 127, 63, 3 and 3 nodes, and the 3 operators that join them.
	l := slices.Concat([]api.Node{op(api.Mul, 0)}, full(6), []api.Node{op(api.Mul, 0)}, full(5), []api.Node{op(api.Mul, 0)}, full(1), full(1))
	if len(l) != 199 || !expr.Right(l) || expr.Depth(l) != 7 {
		t.Error(len(l), expr.Right(l), expr.Depth(l))
	}
	l = append([]api.Node{op(api.Not, 0)}, l...)
	if !expr.Right(l) || expr.Depth(l) != 8 || expr.Show(l) == "" {
		t.Error(len(l), expr.Right(l), expr.Depth(l))
	}
	bad(t, append([]api.Node{op(api.Not, 0)}, l...)...)
	bad(t, full(7)...)
	bad(t, nots(500000)...)
	bad(t, left(500000)...)
}

func TestShowKeepsNodes(t *testing.T) {
	l := parsed(t, "!(a + t.b) * (7 - c)")
	before := slices.Clone(l)
	if !expr.Right(l) || expr.Depth(l) != 3 || expr.Show(l) != "!(a + t.b) * (7 - c)" || expr.End(l, 1) != 5 || len(expr.Names(l)) != 3 {
		t.Error(l)
	}
	if !slices.Equal(l, before) {
		t.Error(l)
	}
}

// P2.2: End.

func TestEnd(t *testing.T) {
	// a * !(t.r - 1) < x
	l := []api.Node{op(api.Lt, 0), op(api.Mul, 0), reg("a", 0), op(api.Not, 0), op(api.Sub, 0), of("t", "r", 0), num(1, 0), loc("x", 0)}
	for i, want := range []int{8, 7, 3, 7, 7, 6, 7, 8, -1, -1} {
		if to := expr.End(l, i); to != want {
			t.Errorf("End(%d) = %d, want %d", i, to, want)
		}
	}
	for i, want := range []int{-1, 7, 3, 7, 7, 6, 7, -1} {
		if to := expr.End(l[:7], i); to != want {
			t.Errorf("End(%d) of an incomplete one = %d, want %d", i, to, want)
		}
	}
	for _, i := range []int{-1, -2, 8, 9, math.MinInt, math.MaxInt} {
		if expr.End(l, i) != -1 || expr.End(nil, i) != -1 {
			t.Error(i, expr.End(l, i))
		}
	}
	if expr.End(nil, 0) != -1 || expr.End([]api.Node{}, 0) != -1 {
		t.Error("End of no nodes")
	}
}

// What begins somewhere only has to be complete: limits and fields do not matter to End.
func TestEndOfOthers(t *testing.T) {
	a := reg("a", 0)
	if to := expr.End([]api.Node{a, op(api.Not, -7), num(-5, -1), a}, 1); to != 3 {
		t.Error(to)
	}
	if to := expr.End([]api.Node{{Op: api.Add, N: 3, Name: "x", In: "y"}, loc("mod", 0), of("", "", 0)}, 0); to != 3 {
		t.Error(to)
	}
	for _, kind := range []int{0, -1, 15, math.MaxInt, math.MinInt} {
		l := []api.Node{op(kind, 0), a, a, op(api.Add, 0), a, op(kind, 0), a}
		for i, want := range []int{-1, 2, 3, -1, 5, -1, 7} {
			if to := expr.End(l, i); to != want {
				t.Errorf("End(%d) = %d, want %d", i, to, want)
			}
		}
	}
	const n = 500000
	l := nots(n)
	if expr.End(l, 0) != n+1 || expr.End(l[:n], 0) != -1 || expr.End(l, n) != n+1 {
		t.Error(expr.End(l, 0), expr.End(l[:n], 0))
	}
}

// P2.4

func TestNames(t *testing.T) {
	a, x, r := reg("a", 3), loc("x", 1), of("t", "r", 2)
	for _, c := range []struct{ l, want []api.Node }{
		{nil, nil},
		{[]api.Node{}, nil},
		{[]api.Node{num(1, 0)}, nil},
		{[]api.Node{a}, []api.Node{a}},
		{[]api.Node{op(api.Not, 0), op(api.Add, 0), r, op(api.Sub, 0), x, num(1, 0)}, []api.Node{r, x}},
		{[]api.Node{op(api.Or, 0), op(api.And, 0), a, a, op(api.Eq, 0), a, x}, []api.Node{a, a, a, x}},
		// Lists that are no expressions have names too.
		{[]api.Node{x, r, op(api.Add, 0), a}, []api.Node{x, r, a}},
		{[]api.Node{reg("", -1), {Op: 15, Name: "b"}, {Op: 0, Name: "c"}, {Op: api.Not, Name: "d"}, {Op: api.Num, Name: "e"}, {Op: api.Of, N: 7}}, []api.Node{reg("", -1), {Op: api.Of, N: 7}}},
	} {
		before := slices.Clone(c.l)
		got := expr.Names(c.l)
		if !slices.Equal(got, c.want) {
			t.Errorf("Names(%v) = %v, want %v", c.l, got, c.want)
		}
		clear(got[:cap(got)])
		if !slices.Equal(c.l, before) {
			t.Errorf("Names shares memory with %v", before)
		}
	}
	if got := expr.Names(parsed(t, "a + t.b * 2 - a")); !slices.Equal(got, []api.Node{reg("a", 0), of("t", "b", 4), reg("a", 14)}) {
		t.Error(got)
	}
}

// P2.5: what is shown is parsed as it was.

// again fails the test unless an expression's text is parsed as that expression.
func again(t *testing.T, l []api.Node) {
	t.Helper()
	shown := expr.Show(l)
	tokens, e, _ := scan.Scan(shown)
	if e != api.OK {
		t.Fatalf("%v is shown as %q, which has no tokens", l, shown)
	}
	x, to, e, at := expr.Parse(tokens, 0)
	if to != len(tokens) || e != api.OK || at != 0 || !expr.Right(x) {
		t.Fatalf("%v is shown as %q, which is parsed as %v, %d, %d, %d", l, shown, x, to, e, at)
	}
	if !slices.EqualFunc(l, x, func(a, b api.Node) bool { a.At, b.At = 0, 0; return a == b }) {
		t.Fatalf("%v is shown as %q, which is parsed as %v", l, shown, x)
	}
}

// expressions calls f with all expressions of up to n nodes of some leaves and some operators.
func expressions(n int, leaves []api.Node, ops []int, f func(l []api.Node)) {
	var grow func(l []api.Node, missing int)
	grow = func(l []api.Node, missing int) {
		if missing == 0 {
			f(l)
			return
		}
		if len(l)+missing > n {
			return
		}
		for _, leaf := range leaves {
			grow(append(l, leaf), missing-1)
		}
		for _, kind := range ops {
			more := 1
			if kind == api.Not {
				more = 0
			}
			grow(append(l, op(kind, 0)), missing+more)
		}
	}
	grow(make([]api.Node, 0, n), 1)
}

func TestShownIsParsed(t *testing.T) {
	count := 0
	each := func(l []api.Node) {
		count++
		again(t, l)
	}
	all := []int{api.Not, api.Add, api.Sub, api.Mul, api.Eq, api.Ne, api.Lt, api.Le, api.And, api.Or}
	expressions(6, []api.Node{reg("a", 0), of("t", "b", 0), num(0, 7)}, all, each)
	expressions(8, []api.Node{reg("a", 0)}, []int{api.Not, api.Sub, api.Lt, api.Or}, each)
	if count < 10000 {
		t.Error(count)
	}
	for _, n := range []int{0, 1, 9, 10, 100, 9999} {
		again(t, []api.Node{num(n, 5)})
	}
	for _, s := range []string{
		chained(31),
		"!(" + product(10) + ")",
		strings.Repeat("a<(", 29) + "!b" + strings.Repeat(")", 29),
		strings.Repeat("!(a&&", 15) + "t.b" + strings.Repeat(")", 15),
		strings.Repeat("!", 30) + "a",
		"abcdefghijklmnop.ABCDEFGHIJKLMNOP <= 9999",
	} {
		again(t, parsed(t, s))
	}
	good(t, []api.Node{op(api.Not, 0), loc("x", 0)}, 1, "!x")
}

// P2.1 and P2.5: against a parser of another make, for all short lists of tokens that matter.

// tree is an expression whose operands are not laid in a list.
type tree struct {
	node api.Node
	kids []tree
}

func (x tree) list() []api.Node {
	l := []api.Node{x.node}
	for _, k := range x.kids {
		l = append(l, k.list()...)
	}
	return l
}

// climber reads an expression by the ranks of its operators. It holds for lists too short for ErrDeep and ErrBig.
type climber struct {
	l  []api.Token
	i  int
	e  api.Errno
	at int
}

func (c *climber) text() string {
	if c.i < len(c.l) {
		return c.l[c.i].Text
	}
	return ""
}

func (c *climber) wrong() tree {
	c.e, c.at = api.ErrEnd, 0
	if c.i < len(c.l) {
		c.e, c.at = api.ErrToken, c.l[c.i].At
	} else if c.i > 0 {
		c.at = c.l[c.i-1].At + len(c.l[c.i-1].Text)
	}
	return tree{}
}

func (c *climber) leaf() tree {
	if c.i == len(c.l) {
		return c.wrong()
	}
	t := c.l[c.i]
	switch {
	case t.Text == "!":
		c.i++
		return tree{op(api.Not, t.At), []tree{c.leaf()}}
	case t.Text == "(":
		c.i++
		x := c.climb(1)
		if c.e == api.OK && c.text() != ")" {
			return c.wrong()
		}
		c.i++
		return x
	case t.Kind == api.Number:
		c.i++
		return tree{num(t.N, t.At), nil}
	case scan.Name(t.Text):
		c.i++
		if c.text() != "." {
			return tree{reg(t.Text, t.At), nil}
		}
		c.i++
		if !scan.Name(c.text()) {
			return c.wrong()
		}
		c.i++
		return tree{of(t.Text, c.l[c.i-1].Text, t.At), nil}
	}
	return c.wrong()
}

func (c *climber) climb(least int) tree {
	x := c.leaf()
	for most := 5; c.e == api.OK; {
		kind, rank := 0, 0
		for _, b := range binary {
			if b.sign == c.text() {
				kind, rank = b.op, b.rank
			}
		}
		if rank < least || rank > most || rank == 0 {
			break
		}
		most = rank
		if rank == 3 {
			most = 2
		}
		at := c.l[c.i].At
		c.i++
		x = tree{op(kind, at), []tree{x, c.climb(rank + 1)}}
	}
	return x
}

func TestParseShortLists(t *testing.T) {
	count := 0
	same := func(l []api.Token) {
		c := climber{l: l}
		x := c.climb(1)
		var want []api.Node
		to := 0
		if c.e == api.OK {
			want, to = x.list(), c.i
			count++
		}
		got, gotTo, e, at := expr.Parse(l, 0)
		if !slices.Equal(got, want) || gotTo != to || e != c.e || at != c.at {
			t.Fatalf("Parse(%q) = %v, %d, %d, %d, want %v, %d, %d, %d", scan.Show(l), got, gotTo, e, at, want, to, c.e, c.at)
		}
		if e == api.OK && !expr.Right(got) {
			t.Fatalf("Parse(%q) = %v, which is not valid", scan.Show(l), got)
		}
	}
	shortLists(t, "a 7 . ( ) ! + * == < && || ; mod", 5, same)
	shortLists(t, "b ( ) ! - <= .", 7, same)
	shortLists(t, "c || && != + *", 7, same)
	if count < 10000 {
		t.Error(count)
	}
}

// shortLists calls f with all lists of up to n of these tokens.
func shortLists(t *testing.T, alphabet string, n int, f func(l []api.Token)) {
	t.Helper()
	kinds := tokens(t, alphabet)
	var grow func(l []api.Token, at int)
	grow = func(l []api.Token, at int) {
		f(l)
		if len(l) == n {
			return
		}
		for _, k := range kinds {
			k.At = at
			grow(append(l, k), at+len(k.Text)+1)
		}
	}
	grow(make([]api.Token, 0, n), 3)
}
