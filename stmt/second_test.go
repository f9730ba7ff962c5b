package stmt_test

import (
	"slices"
	"strings"
	"testing"

	"spinnaker/api"
	"spinnaker/expr"
	"spinnaker/scan"
	"spinnaker/stmt"
)

// P3.1 and P3.4: against a parser of another make, for all short lists of tokens that matter, and
// for all small statements.

// forms are the statements as the chapter writes them: R a register, L a location, C one of ==
// and !=, E an expression, B a block, O the optional else with its block.
var forms = []struct {
	kind int
	text string
}{
	{api.Skip, "skip ;"},
	{api.Fence, "fence ;"},
	{api.Break, "break ;"},
	{api.Set, "set R = E ;"},
	{api.Load, "load R = L ;"},
	{api.Store, "store L = E ;"},
	{api.Cas, "cas R = L , E , E ;"},
	{api.Fadd, "fadd R = L , E ;"},
	{api.Xchg, "xchg R = L , E ;"},
	{api.Await, "await L C E ;"},
	{api.If, "if E B O"},
	{api.While, "while E B"},
	{api.Loop, "loop B"},
}

// tree is a statement whose blocks are not laid in its list.
type tree struct {
	s           api.Stmt
	body, other []tree
}

func list(trees []tree) []api.Stmt {
	var l []api.Stmt
	for _, x := range trees {
		body, other := list(x.body), list(x.other)
		x.s.Body, x.s.Else = len(body), len(other)
		l = slices.Concat(l, []api.Stmt{x.s}, body, other)
	}
	return l
}

// follower reads tokens as the forms say. It panics with a stop at an error, and has no limits.
type follower struct {
	l []api.Token
	i int
}

type stop struct {
	e  api.Errno
	at int
}

// follow is what Parse should return for statements within the limits.
func follow(l []api.Token, i int) (x []api.Stmt, to int, e api.Errno, at int) {
	defer func() {
		if s, ok := recover().(stop); ok {
			x, to, e, at = nil, 0, s.e, s.at
		}
	}()
	f := follower{l, i}
	trees := f.trees(true)
	return list(trees), f.i, api.OK, 0
}

func (f *follower) text() string {
	if f.i == len(f.l) {
		return ""
	}
	return f.l[f.i].Text
}

// take takes the next token, or stops at it unless it can stand there.
func (f *follower) take(can bool) string {
	s := f.text()
	if s == "" {
		last := f.l[len(f.l)-1]
		panic(stop{api.ErrEnd, last.At + len(last.Text)})
	}
	if !can {
		panic(stop{api.ErrToken, f.l[f.i].At})
	}
	f.i++
	return s
}

func (f *follower) trees(outermost bool) []tree {
	var trees []tree
	for f.text() != "}" && !(outermost && f.text() == "") {
		trees = append(trees, f.tree())
	}
	return trees
}

func (f *follower) tree() tree {
	for _, form := range forms {
		symbols := strings.Fields(form.text)
		if symbols[0] == f.text() {
			x := tree{s: api.Stmt{Kind: form.kind, At: f.l[f.i].At}}
			for _, symbol := range symbols {
				f.symbol(&x, symbol)
			}
			return x
		}
	}
	f.take(false)
	return tree{}
}

func (f *follower) symbol(x *tree, symbol string) {
	switch symbol {
	case "R":
		x.s.Reg = f.take(scan.Name(f.text()))
	case "L":
		x.s.Loc = f.take(scan.Name(f.text()))
	case "C":
		x.s.Ne = f.take(f.text() == "==" || f.text() == "!=") == "!="
	case "E":
		n := f.expression()
		if x.s.E == nil {
			x.s.E = n
		} else {
			x.s.F = n
		}
	case "B":
		x.body = f.block()
	case "O":
		if f.text() == "else" {
			f.i++
			x.other = f.block()
		}
	default:
		f.take(f.text() == symbol)
	}
}

func (f *follower) block() []tree {
	f.take(f.text() == "{")
	trees := f.trees(false)
	f.take(true)
	return trees
}

func (f *follower) expression() []api.Node {
	n, to, e, at := expr.Parse(f.l, f.i)
	if e != api.OK {
		panic(stop{e, at})
	}
	for _, x := range n {
		if x.Op == api.Of {
			f.take(false)
		}
	}
	f.i = to
	return n
}

// agrees fails the test unless both parsers say the same of these tokens.
func agrees(t *testing.T, l []api.Token, i int) (api.Errno, int) {
	t.Helper()
	x, to, e, at := stmt.Parse(l, i)
	y, secondTo, secondE, secondAt := follow(l, i)
	if to != secondTo || e != secondE || at != secondAt || !same(x, y) {
		t.Fatalf("Parse(%q, %d) = %v, %d, %d, %d, and by the other parser %v, %d, %d, %d", scan.Show(l), i, x, to, e, at, y, secondTo, secondE, secondAt)
	}
	if !stmt.Right(x) {
		t.Fatalf("Parse(%q, %d) = %v is not valid", scan.Show(l), i, x)
	}
	return e, to
}

// grow compares the parsers for all lists of up to n tokens, but for those whose beginning was
// refused already, or ended already.
func grow(t *testing.T, n int, words []string) int {
	t.Helper()
	count := 0
	var next func(l []api.Token, at int)
	next = func(l []api.Token, at int) {
		count++
		e, to := agrees(t, l, 0)
		if len(l) == n || e == api.ErrToken || e == api.OK && to < len(l) {
			return
		}
		for _, w := range words {
			token, _, _ := scan.Scan(w)
			token[0].At = at
			next(append(l, token[0]), at+len(w)+1)
		}
	}
	next(make([]api.Token, 0, n), 0)
	return count
}

func TestParseAsOther(t *testing.T) {
	all := slices.Concat(every, []string{"a", "7"})
	total := grow(t, 6, all)
	total += grow(t, 13, []string{"cas", "fadd", "a", "=", ",", ";"})
	total += grow(t, 10, []string{"set", "await", "x", "=", "!=", ".", ";", "7"})
	total += grow(t, 12, []string{"if", "else", "b", "{", "}", "skip", ";"})
	total += grow(t, 12, []string{"while", "loop", "b", "{", "}"})
	if total < 100000 {
		t.Error(total)
	}
}

// From each token of a text on, and up to each, both parsers say the same.
func TestParseParts(t *testing.T) {
	l := tokens(t, strings.Join(each, " ")+" if a { loop { set b = (1 + b) < !c; } while b { } } else { if a { } else { break; } } } skip;")
	for i := range l {
		for to := i; to <= len(l); to++ {
			if i < to {
				agrees(t, l[:to], i)
			}
		}
	}
}

// again fails the test unless the text of statements is parsed as these statements.
func again(t *testing.T, l []api.Stmt, deep int) {
	t.Helper()
	shown := stmt.Show(l, deep)
	tokens, e, _ := scan.Scan(shown)
	if e != api.OK {
		t.Fatalf("%v is shown as %q, which has no tokens", l, shown)
	}
	x, to, e, at := stmt.Parse(tokens, 0)
	if to != len(tokens) || e != api.OK || at != 0 || !stmt.Right(x) || !same(placeless(x), placeless(l)) {
		t.Fatalf("%v is shown as %q, which is parsed as %v, %d, %d, %d", l, shown, x, to, e, at)
	}
}

// placeless is statements without their offsets.
func placeless(l []api.Stmt) []api.Stmt {
	l = slices.Clone(l)
	for i := range l {
		l[i].At = 0
		for _, n := range []*[]api.Node{&l[i].E, &l[i].F} {
			*n = slices.Clone(*n)
			for k := range *n {
				(*n)[k].At = 0
			}
		}
	}
	return l
}

// statements calls f with all complete lists of up to n statements of some without blocks, and of
// If, While and Loop.
func statements(n int, leaves []api.Stmt, f func(l []api.Stmt)) {
	var lists func(n int) [][]api.Stmt
	lists = func(n int) [][]api.Stmt {
		if n == 0 {
			return [][]api.Stmt{nil}
		}
		var all [][]api.Stmt
		for after := range n {
			inside := n - 1 - after
			var firsts [][]api.Stmt
			if inside == 0 {
				for _, s := range leaves {
					firsts = append(firsts, []api.Stmt{s})
				}
			}
			for _, body := range lists(inside) {
				firsts = append(firsts, append([]api.Stmt{{Kind: api.Loop, Body: inside, At: 3}}, body...))
				firsts = append(firsts, append([]api.Stmt{{Kind: api.While, E: nodes(reg("a", 9)), Body: inside}}, body...))
			}
			for body := range inside + 1 {
				for _, b := range lists(body) {
					for _, o := range lists(inside - body) {
						firsts = append(firsts, slices.Concat([]api.Stmt{{Kind: api.If, E: nodes(num(1, 9)), Body: body, Else: inside - body}}, b, o))
					}
				}
			}
			for _, first := range firsts {
				for _, rest := range lists(after) {
					all = append(all, slices.Concat(first, rest))
				}
			}
		}
		return all
	}
	for k := range n + 1 {
		for _, l := range lists(k) {
			f(l)
		}
	}
}

func TestShownIsParsed(t *testing.T) {
	count := 0
	var leaves []api.Stmt
	for _, v := range valid {
		leaves = append(leaves, v.s)
	}
	statements(3, leaves, func(l []api.Stmt) { again(t, l, count%101); count++ })
	statements(5, leaves[:1], func(l []api.Stmt) { again(t, l, count%101); count++ })
	if count < 3000 {
		t.Error(count)
	}
	for _, s := range []string{
		strings.Repeat("loop{", 30) + strings.Repeat("}", 30),
		strings.Repeat("if a{}else{", 30) + "skip;" + strings.Repeat("}", 30),
		strings.Repeat("skip;", 200),
		"set a = !(" + wide + ");",
		"cas abcdefghijklmnop = ABCDEFGHIJKLMNOP, 9999, " + strings.Repeat("!", 30) + "b;",
		"await x == ((a == b) != (c < d)); await x != (a && b);",
	} {
		again(t, parsed(t, s), 0)
	}
}

// What is nested is seen by Tops and Depth as the trees have it.
func TestShapesAsTrees(t *testing.T) {
	statements(5, []api.Stmt{{Kind: api.Skip}}, func(l []api.Stmt) {
		trees := (&follower{l: tokens(t, stmt.Show(l, 0))}).trees(true)
		var tops []int
		for i := range trees {
			tops = append(tops, len(list(trees[:i])))
		}
		if got := stmt.Tops(l); !slices.Equal(got, tops) || stmt.Depth(l) != deepest(trees) {
			t.Fatalf("%v: %v, %d, want %v, %d", l, got, stmt.Depth(l), tops, deepest(trees))
		}
	})
}

func deepest(trees []tree) int {
	d := 0
	for _, x := range trees {
		if x.s.Kind == api.If || x.s.Kind == api.While || x.s.Kind == api.Loop {
			d = max(d, 1+deepest(x.body), 1+deepest(x.other))
		}
	}
	return d
}
