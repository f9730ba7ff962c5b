package code_test

import (
	"math"
	"slices"
	"strconv"
	"strings"
	"testing"

	"spinnaker/api"
	"spinnaker/code"
	"spinnaker/expr"
	"spinnaker/prog"
	"spinnaker/scan"
)

// signs are the operators that have operands.
var signs = map[int]string{
	api.Not: "!", api.Add: "+", api.Sub: "-", api.Mul: "*", api.Eq: "==", api.Ne: "!=",
	api.Lt: "<", api.Le: "<=", api.And: "&&", api.Or: "||",
}

// binary are the operators that have two.
var binary = []int{api.Add, api.Sub, api.Mul, api.Eq, api.Ne, api.Lt, api.Le, api.And, api.Or}

// written is code as a text: 7 pushes a number, r7 a register, l7 a location, 1.7 a register of thread 1.
func written(l []api.Op) string {
	var words []string
	for _, o := range l {
		n := strconv.Itoa(o.N)
		rest := api.Op{Op: o.Op}
		word := signs[o.Op]
		switch o.Op {
		case api.Num:
			word, rest.N = n, o.N
		case api.Reg:
			word, rest.N = "r"+n, o.N
		case api.Loc:
			word, rest.N = "l"+n, o.N
		case api.Of:
			word, rest.N, rest.T = strconv.Itoa(o.T)+"."+n, o.N, o.T
		}
		if o != rest {
			word += "?" // a field that the step does not have is not zero
		}
		words = append(words, word)
	}
	return strings.Join(words, " ")
}

// expression is the expression of a thread that a text is.
func expression(t *testing.T, s string) []api.Node {
	t.Helper()
	l, e, at := scan.Scan(s)
	if e != api.OK {
		t.Fatalf("Scan(%q): %d, %d", s, e, at)
	}
	x, to, e, at := expr.Parse(l, 0)
	if e != api.OK || to != len(l) {
		t.Fatalf("Parse(%q): %d, %d, %d", s, to, e, at)
	}
	return x
}

// program is the program that a text is.
func program(t *testing.T, s string) api.Prog {
	t.Helper()
	p, e, at := prog.Parse(s)
	if e != api.OK {
		t.Fatalf("Parse(%q): %d, %d", s, e, at)
	}
	return p
}

// claimed is the expression of the claim that a text is.
func claimed(t *testing.T, s string) []api.Node {
	t.Helper()
	return program(t, "mod 2; thread t { } forall "+s+";").Claims[0].E
}

// thread fails the test unless Thread returns the code that is written so.
func thread(t *testing.T, l []api.Node, regs []string, want string) {
	t.Helper()
	if ops, ok := code.Thread(l, regs); !ok || written(ops) != want {
		t.Errorf("Thread(%v, %q) = %s, %v, want %s", l, regs, written(ops), ok, want)
	}
}

// noThread fails the test unless Thread returns nil and false.
func noThread(t *testing.T, l []api.Node, regs ...string) {
	t.Helper()
	if ops, ok := code.Thread(l, regs); ok || ops != nil {
		t.Errorf("Thread(%v, %q) = %s, %v", l, regs, written(ops), ok)
	}
}

// claim fails the test unless Claim returns the code that is written so.
func claim(t *testing.T, l []api.Node, p api.Prog, want string) {
	t.Helper()
	if ops, ok := code.Claim(l, p); !ok || written(ops) != want {
		t.Errorf("Claim(%v) = %s, %v, want %s", l, written(ops), ok, want)
	}
}

// noClaim fails the test unless Claim returns nil and false.
func noClaim(t *testing.T, l []api.Node, p api.Prog) {
	t.Helper()
	if ops, ok := code.Claim(l, p); ok || ops != nil {
		t.Errorf("Claim(%v) = %s, %v", l, written(ops), ok)
	}
}

// P6.1: Thread.

func TestThread(t *testing.T) {
	regs := []string{"a", "b", "c"}
	for _, c := range []struct{ text, want string }{
		{"a + 1", "r0 1 +"},
		{"0", "0"},
		{"9999", "9999"},
		{"a", "r0"},
		{"c", "r2"},
		{"!a", "r0 !"},
		{"!!7", "7 ! !"},
		{"a - b", "r0 r1 -"},
		{"b - a", "r1 r0 -"},
		{"a - b - c", "r0 r1 - r2 -"},
		{"a - (b - c)", "r0 r1 r2 - -"},
		{"a + b * 2", "r0 r1 2 * +"},
		{"(a + b) * 2", "r0 r1 + 2 *"},
		{"!(a < b) && !c", "r0 r1 < ! r2 ! &&"},
		{"a == 1 || b != 2 && c <= 3", "r0 1 == r1 2 != r2 3 <= && ||"},
		{"(a - b) * (c - a) - (b + 1) * (4 - c)", "r0 r1 - r2 r0 - * r1 1 + 4 r2 - * -"},
	} {
		thread(t, expression(t, c.text), regs, c.want)
	}
}

func TestThreadOperators(t *testing.T) {
	for _, op := range binary {
		s := signs[op]
		thread(t, expression(t, "b "+s+" 5"), []string{"a", "b"}, "r1 5 "+s)
		thread(t, expression(t, "5 "+s+" b"), []string{"a", "b"}, "5 r1 "+s)
	}
}

func TestThreadRegisters(t *testing.T) {
	l := expression(t, "q + q")
	thread(t, l, []string{"q"}, "r0 r0 +")
	thread(t, l, []string{"p", "q", "r"}, "r1 r1 +")
	// The first of equal names, and more of them than a thread may have.
	thread(t, l, []string{"p", "q", "q", "p", "q"}, "r1 r1 +")
	thread(t, l, append(make([]string, 1000), "q"), "r1000 r1000 +")
	thread(t, expression(t, "3"), nil, "3")
	noThread(t, l)
	noThread(t, l, "")
	noThread(t, l, "p", "Q", "qq", "q ", "q\x00")
	noThread(t, expression(t, "p + q"), "p")
	noThread(t, expression(t, "p + q"), "q")
	noThread(t, expression(t, "!(2 * (1 + q))"), "p")
}

func TestThreadOtherNames(t *testing.T) {
	regs := []string{"t", "a", "x"}
	noThread(t, []api.Node{{Op: api.Loc, Name: "x"}}, regs...)
	noThread(t, []api.Node{{Op: api.Of, In: "t", Name: "a"}}, regs...)
	noThread(t, []api.Node{{Op: api.Add}, {Op: api.Reg, Name: "a"}, {Op: api.Loc, Name: "x"}}, regs...)
	noThread(t, []api.Node{{Op: api.Add}, {Op: api.Loc, Name: "x"}, {Op: api.Reg, Name: "a"}}, regs...)
	noThread(t, expression(t, "a + t.a"), regs...)
	noThread(t, expression(t, "t.a + a"), regs...)
}

// notValid are lists that are not valid expressions. All names in them are a, or a of a.
func notValid() [][]api.Node {
	num, add := api.Node{Op: api.Num, N: 1}, api.Node{Op: api.Add}
	not := api.Node{Op: api.Not}
	lists := [][]api.Node{
		nil,
		{},
		{not},
		{add},
		{add, num},
		{num, num},
		{num, add},
		{num, num, add},
		{not, num, num},
		{add, num, num, num},
		{num, {}},
		append(slices.Repeat([]api.Node{not}, api.MaxDepth+1), num),
		slices.Concat(slices.Repeat([]api.Node{add}, api.MaxNodes/2), slices.Repeat([]api.Node{num}, api.MaxNodes/2+1)),
	}
	for _, n := range []api.Node{
		{},
		{Op: -1},
		{Op: 15},
		{Op: math.MaxInt},
		{Op: math.MinInt},
		{Op: api.Num, N: 10000},
		{Op: api.Num, N: -1},
		{Op: api.Num, N: 1, Name: "a"},
		{Op: api.Num, N: 1, At: -1},
		{Op: api.Reg},
		{Op: api.Reg, Name: "if"},
		{Op: api.Reg, Name: "a", N: 1},
		{Op: api.Reg, Name: "a", In: "a"},
		{Op: api.Reg, Name: "a", At: -1},
		{Op: api.Loc, Name: "1"},
		{Op: api.Loc, Name: "a", N: 1},
		{Op: api.Loc, Name: "a", In: "a"},
		{Op: api.Loc, Name: "a", At: -1},
		{Op: api.Of, Name: "a"},
		{Op: api.Of, In: "a"},
		{Op: api.Of, In: "a", Name: "a", N: 1},
		{Op: api.Of, In: "a", Name: "a", At: -1},
	} {
		lists = append(lists, []api.Node{n}, []api.Node{not, n}, []api.Node{add, num, n}, []api.Node{add, n, num})
	}
	return append(lists, []api.Node{{Op: api.Not, N: 1}, num}, []api.Node{{Op: api.Add, Name: "a"}, num, num})
}

func TestNotValid(t *testing.T) {
	p := program(t, "mod 2; loc a = 0; thread a { reg a; } forall 1;")
	p.Threads[0].Regs = []string{"a", "", "if", "1"}
	p.Locs = append(p.Locs, api.Var{Name: ""}, api.Var{Name: "if"}, api.Var{Name: "1"})
	for _, l := range notValid() {
		noThread(t, l, "a", "", "if", "1")
		noClaim(t, l, p)
	}
}

// P6.1: the limits of expressions.

func TestLimits(t *testing.T) {
	one := api.Node{Op: api.Num, N: 1}
	nots := append(slices.Repeat([]api.Node{{Op: api.Not}}, api.MaxDepth), one)
	left := slices.Concat(slices.Repeat([]api.Node{{Op: api.Sub}}, api.MaxDepth), slices.Repeat([]api.Node{one}, api.MaxDepth+1))
	right := append(slices.Repeat([]api.Node{{Op: api.Sub}, one}, api.MaxDepth), one)
	wide := balanced(api.MaxNodes)
	for _, c := range []struct {
		l    []api.Node
		want string
	}{
		{nots, "1" + strings.Repeat(" !", api.MaxDepth)},
		{left, "1" + strings.Repeat(" 1 -", api.MaxDepth)},
		{right, strings.Repeat("1 ", api.MaxDepth+1) + strings.Repeat("- ", api.MaxDepth-1) + "-"},
		{wide, written(turned(wide, nil))},
	} {
		thread(t, c.l, nil, c.want)
		claim(t, c.l, api.Prog{}, c.want)
	}
	if len(wide) != api.MaxNodes {
		t.Error(len(wide))
	}
}

// balanced is an expression of n nodes, and of a small depth.
func balanced(n int) []api.Node {
	switch n {
	case 1:
		return []api.Node{{Op: api.Num, N: 1}}
	case 2:
		return []api.Node{{Op: api.Not}, {Op: api.Num, N: 2}}
	}
	first := (n - 1) / 2
	return slices.Concat([]api.Node{{Op: api.Sub}}, balanced(first), balanced(n-1-first))
}

// P6.1: Claim.

func TestClaim(t *testing.T) {
	p := program(t, "mod 4; loc x = 0; loc y = 1; loc t = 2; thread t { reg a, b; } thread u { reg b, c, a; } thread v { }")
	for _, c := range []struct{ text, want string }{
		{"5", "5"},
		{"x", "l0"},
		{"y", "l1"},
		{"t", "l2"},
		{"t.a", "0.0"},
		{"t.b", "0.1"},
		{"u.b", "1.0"},
		{"u.a", "1.2"},
		{"!u.c", "1.1 !"},
		{"x - y", "l0 l1 -"},
		{"y - x", "l1 l0 -"},
		{"t.a - u.a", "0.0 1.2 -"},
		{"t.a - u.a - t", "0.0 1.2 - l2 -"},
		{"t.a - (u.a - t)", "0.0 1.2 l2 - -"},
		{"u.c + t.b == y || !x && 9999 < u.b * 2", "1.1 0.1 + l1 == l0 ! 9999 1.0 2 * < && ||"},
	} {
		claim(t, claimed(t, c.text), p, c.want)
	}
	for _, op := range binary {
		claim(t, claimed(t, "u.c "+signs[op]+" y"), p, "1.1 l1 "+signs[op])
	}
	for _, s := range []string{
		"z", "X", "a", "u", "xx",
		"w.a", "x.a", "a.t", "T.a", "t.c", "t.x", "t.t", "v.a", "v.b", "u.A",
		"!z", "x + z", "z + x", "t.a + t.c", "t.c + t.a", "1 + (2 * !v.a)",
	} {
		noClaim(t, claimed(t, s), p)
	}
}

func TestClaimRegisters(t *testing.T) {
	p := program(t, "mod 4; loc x = 0; thread a { reg a; }")
	x, a := api.Node{Op: api.Loc, Name: "x"}, api.Node{Op: api.Reg, Name: "a"}
	claim(t, []api.Node{x}, p, "l0")
	noClaim(t, []api.Node{a}, p)
	noClaim(t, []api.Node{{Op: api.Reg, Name: "x"}}, p)
	noClaim(t, []api.Node{{Op: api.Add}, x, a}, p)
	noClaim(t, []api.Node{{Op: api.Add}, a, x}, p)
	noClaim(t, []api.Node{{Op: api.Not}, a}, p)
	// A register without a thread is not one of a thread without a name.
	p.Threads = append(p.Threads, api.Thread{Regs: []string{"a"}})
	noClaim(t, []api.Node{a}, p)
}

// The program need not be one that is well-formed.
func TestClaimAnyProgram(t *testing.T) {
	claim(t, claimed(t, "1 + 2"), api.Prog{}, "1 2 +")
	noClaim(t, claimed(t, "x"), api.Prog{})
	noClaim(t, claimed(t, "t.a"), api.Prog{})
	p := api.Prog{Mod: -5, Locs: make([]api.Var, 1000), Threads: make([]api.Thread, 100)}
	p.Locs = append(p.Locs, api.Var{Name: "x", N: -1, At: -1}, api.Var{Name: "x"})
	p.Threads = append(p.Threads, api.Thread{Name: "t", Regs: append(make([]string, 50), "a", "a"), At: -1}, api.Thread{Name: "t", Regs: []string{"a", "b"}})
	claim(t, claimed(t, "t.a - x"), p, "100.50 l1000 -")
	// The thread is the first one of that name, whatever its registers.
	noClaim(t, claimed(t, "t.b"), p)
}

// P6.1: against a translator of another make.

// turned is the code of a complete expression. It goes through the nodes backwards, and keeps
// the code of the expressions behind a node. Names are those of a thread with these registers,
// or of places, each a location or a register of a thread.
func turned(l []api.Node, places map[string]api.Op) []api.Op {
	var behind [][]api.Op
	take := func() []api.Op {
		last := len(behind) - 1
		x := behind[last]
		behind = behind[:last]
		return x
	}
	for i := len(l) - 1; i >= 0; i-- {
		n := l[i]
		switch n.Op {
		case api.Num:
			behind = append(behind, []api.Op{{Op: api.Num, N: n.N}})
		case api.Reg, api.Loc, api.Of:
			behind = append(behind, []api.Op{places[n.In+"."+n.Name]})
		case api.Not:
			behind = append(behind, slices.Concat(take(), []api.Op{{Op: n.Op}}))
		default:
			first := take()
			behind = append(behind, slices.Concat(first, take(), []api.Op{{Op: n.Op}}))
		}
	}
	return take()
}

// expressions calls f with all complete expressions of n nodes that have these leaves and operators.
func expressions(n int, leaves []api.Node, ops []int, f func(l []api.Node)) {
	var grow func(l []api.Node, missing int)
	grow = func(l []api.Node, missing int) {
		if left := n - len(l); missing > left || left > 0 && missing == 0 {
			return
		}
		if len(l) == n {
			f(l)
			return
		}
		for _, x := range leaves {
			grow(append(l, x), missing-1)
		}
		for _, op := range ops {
			x := append(l, api.Node{Op: op})
			if op == api.Not {
				grow(x, missing)
			} else {
				grow(x, missing+1)
			}
		}
	}
	grow(make([]api.Node, 0, n), 1)
}

func TestThreadAsOther(t *testing.T) {
	leaves := []api.Node{{Op: api.Num, N: 7}, {Op: api.Reg, Name: "a", At: 3}, {Op: api.Reg, Name: "b"}}
	places := map[string]api.Op{".a": {Op: api.Reg, N: 1}, ".b": {Op: api.Reg}}
	count := 0
	for n := range 8 {
		expressions(n, leaves, []int{api.Not, api.Sub, api.Lt}, func(l []api.Node) {
			count++
			if ops, ok := code.Thread(l, []string{"b", "a"}); !ok || !slices.Equal(ops, turned(l, places)) {
				t.Fatalf("Thread(%v) = %s, %v", l, written(ops), ok)
			}
		})
	}
	if count < 8000 {
		t.Error(count)
	}
}

func TestClaimAsOther(t *testing.T) {
	p := program(t, "mod 4; loc y = 0; loc x = 1; thread u { reg b, a; } thread t { reg c, a; }")
	leaves := []api.Node{{Op: api.Loc, Name: "x"}, {Op: api.Of, In: "t", Name: "a", At: 9}, {Op: api.Of, In: "u", Name: "a"}}
	places := map[string]api.Op{".x": {Op: api.Loc, N: 1}, "t.a": {Op: api.Of, N: 1, T: 1}, "u.a": {Op: api.Of, N: 1}}
	for n := range 8 {
		expressions(n, leaves, []int{api.Not, api.Mul, api.Or}, func(l []api.Node) {
			if ops, ok := code.Claim(l, p); !ok || !slices.Equal(ops, turned(l, places)) {
				t.Fatalf("Claim(%v) = %s, %v", l, written(ops), ok)
			}
		})
	}
}

// R4: what is passed is kept, and what a call returns is its own.

// padded is a list with a marked element in its spare capacity.
func padded[T any](l []T, mark T) []T {
	x := make([]T, 0, len(l)+1)
	return append(append(x, l...), mark)[:len(l)]
}

// spare is a list with what is in its spare capacity.
func spare[T any](l []T) []T {
	return l[:cap(l)]
}

func TestThreadKeeps(t *testing.T) {
	l := padded(expression(t, "a - !b"), api.Node{N: 77})
	regs := padded([]string{"b", "a"}, "spare")
	nodes, names := slices.Clone(spare(l)), slices.Clone(spare(regs))
	first, _ := code.Thread(l, regs)
	clear(spare(first))
	if second, ok := code.Thread(l, regs); !ok || written(second) != "r1 r0 ! -" {
		t.Error(written(second), ok)
	}
	noThread(t, l, "a")
	if !slices.Equal(spare(l), nodes) || !slices.Equal(spare(regs), names) {
		t.Error(l, regs)
	}
}

func TestClaimKeeps(t *testing.T) {
	p := program(t, "mod 4; loc x = 1; loc y = 2; thread t { reg a, b; } thread u { reg c; }")
	p.Locs = padded(p.Locs, api.Var{Name: "spare"})
	p.Threads = padded(p.Threads, api.Thread{Name: "spare"})
	for i := range p.Threads {
		p.Threads[i].Regs = padded(p.Threads[i].Regs, "spare")
	}
	l := padded(claimed(t, "y - !t.b"), api.Node{N: 77})
	nodes, locs := slices.Clone(spare(l)), slices.Clone(spare(p.Locs))
	first, _ := code.Claim(l, p)
	clear(spare(first))
	if second, ok := code.Claim(l, p); !ok || written(second) != "l1 0.1 ! -" {
		t.Error(written(second), ok)
	}
	noClaim(t, claimed(t, "spare"), p)
	noClaim(t, claimed(t, "spare.a"), p)
	noClaim(t, claimed(t, "t.spare"), p)
	regs := slices.Concat(spare(p.Threads[0].Regs), spare(p.Threads[1].Regs))
	if !slices.Equal(spare(l), nodes) || !slices.Equal(spare(p.Locs), locs) || !slices.Equal(regs, []string{"a", "b", "spare", "c", "spare"}) {
		t.Error(l, p)
	}
	if names := []string{p.Threads[0].Name, p.Threads[1].Name, spare(p.Threads)[2].Name}; !slices.Equal(names, []string{"t", "u", "spare"}) {
		t.Error(names)
	}
}
