package prog_test

import (
	"math"
	"slices"
	"strings"
	"testing"

	"spinnaker/api"
	"spinnaker/prog"
)

const whole = `mod 4;
loc x = 0;
loc y = 9999;
thread t {
  reg a;
  load a = x;
  while a != 0 {
    load a = x;
  }
}
thread u {
}
thread v {
  reg a, b, c;
}
thread w {
  skip;
}
forall x == 0;
exists !(t.a < 2);
always (t.a + v.b) <= y;
`

// good fails the test unless a program is valid and has this text.
func good(t *testing.T, p api.Prog, text string) {
	t.Helper()
	if s := prog.Show(p); !prog.Right(p) || s != text {
		t.Errorf("%.300v: %v, %q, want %q", p, prog.Right(p), s, text)
	}
}

// bad fails the test unless a program is not valid.
func bad(t *testing.T, p api.Prog) {
	t.Helper()
	if s := prog.Show(p); prog.Right(p) || s != "" {
		t.Errorf("%.300v: %v, %q, want it not to be valid", p, prog.Right(p), s)
	}
}

// P4.2 and P4.3: valid programs.

func TestShowWhole(t *testing.T) {
	good(t, parsed(t, whole), whole)
	good(t, parsed(t, strings.Join(strings.Fields(whole), "\n")), whole)
}

func TestShowNumbers(t *testing.T) {
	good(t, api.Prog{}, "mod 0;\n")
	good(t, api.Prog{Mod: 16, Locs: []api.Var{}, Threads: []api.Thread{}, Claims: []api.Claim{}}, "mod 16;\n")
	good(t, api.Prog{Mod: 9999}, "mod 9999;\n")
	good(t, api.Prog{Locs: []api.Var{{Name: "x"}, {Name: "abcdefghijklmnop", N: 9999, At: math.MaxInt}, {Name: "x", N: 10}}},
		"mod 0;\nloc x = 0;\nloc abcdefghijklmnop = 9999;\nloc x = 10;\n")
}

func TestShowThreads(t *testing.T) {
	good(t, api.Prog{Threads: []api.Thread{{Name: "t", At: math.MaxInt}}}, "mod 0;\nthread t {\n}\n")
	good(t, api.Prog{Threads: []api.Thread{{Name: "t", Regs: []string{}, Body: []api.Stmt{}}}}, "mod 0;\nthread t {\n}\n")
	good(t, api.Prog{Threads: []api.Thread{{Name: "t", Regs: []string{"a"}}}}, "mod 0;\nthread t {\n  reg a;\n}\n")
	good(t, api.Prog{Threads: []api.Thread{{Name: "t", Regs: []string{"a", "b", "a"}}, {Name: "t"}}}, "mod 0;\nthread t {\n  reg a, b, a;\n}\nthread t {\n}\n")
	body := []api.Stmt{{Kind: api.Loop, Body: 2}, {Kind: api.If, E: nodes(reg("a", 3)), Else: 1}, {Kind: api.Break}, {Kind: api.Fence}}
	text := "  loop {\n    if a {\n    } else {\n      break;\n    }\n  }\n  fence;\n}\n"
	good(t, api.Prog{Threads: []api.Thread{{Name: "_", Body: body}}}, "mod 0;\nthread _ {\n"+text)
	good(t, api.Prog{Threads: []api.Thread{{Name: "t", Regs: []string{"b"}, Body: body}}}, "mod 0;\nthread t {\n  reg b;\n"+text)
}

func TestShowClaims(t *testing.T) {
	sum := nodes(op(api.Add, 9), loc("x", 0), op(api.Mul, 0), of("t", "a", 0), op(api.Not, 0), num(7, 2))
	for kind, word := range map[int]string{api.Forall: "forall", api.Exists: "exists", api.Always: "always"} {
		good(t, api.Prog{Claims: []api.Claim{{Kind: kind, E: nodes(loc("x", 0)), At: math.MaxInt}}}, "mod 0;\n"+word+" x;\n")
		good(t, api.Prog{Claims: []api.Claim{{Kind: kind, E: sum}, {Kind: kind, E: sum[3:4]}}}, "mod 0;\n"+word+" x + (t.a * !7);\n"+word+" t.a;\n")
	}
	good(t, api.Prog{Mod: 2, Locs: []api.Var{{Name: "x"}}, Claims: []api.Claim{{Kind: api.Always, E: nodes(num(0, 0))}}}, "mod 2;\nloc x = 0;\nalways 0;\n")
}

// Right asks for the form alone, not for what the names mean, nor how many parts there are.
func TestValidManyParts(t *testing.T) {
	good(t, api.Prog{
		Locs:    slices.Repeat([]api.Var{{Name: "x"}}, 1000),
		Threads: slices.Repeat([]api.Thread{{Name: "x", Regs: slices.Repeat([]string{"x"}, 100)}}, 100),
		Claims:  slices.Repeat([]api.Claim{{Kind: api.Exists, E: nodes(of("u", "b", 0))}}, 1000),
	}, "mod 0;\n"+strings.Repeat("loc x = 0;\n", 1000)+
		strings.Repeat("thread x {\n  reg x"+strings.Repeat(", x", 99)+";\n}\n", 100)+
		strings.Repeat("exists u.b;\n", 1000))
}

// P4.2 and P4.3: programs that are not valid.

// within fails the test unless each of these parts makes a program not valid, wherever it stands.
func within(t *testing.T, part api.Prog) {
	t.Helper()
	other := parsed(t, whole)
	for _, l := range []api.Prog{part, join(part, other), join(other, part)} {
		l.Mod = 2
		bad(t, l)
	}
}

func join(p, q api.Prog) api.Prog {
	return api.Prog{
		Locs:    slices.Concat(p.Locs, q.Locs),
		Threads: slices.Concat(p.Threads, q.Threads),
		Claims:  slices.Concat(p.Claims, q.Claims),
	}
}

var outOfBounds = []int{-1, 10000, 10001, math.MinInt, math.MaxInt}

var noNames = []string{"", "0", "9a", "a b", " a", "a.b", "a\n", "\xff", "\u00e9", "abcdefghijklmnopq", "mod", "loc", "thread", "reg", "if", "always", ";", "}"}

func TestWrongNumbers(t *testing.T) {
	for _, n := range outOfBounds {
		p := parsed(t, whole)
		p.Mod = n
		bad(t, p)
		bad(t, api.Prog{Mod: n})
		within(t, api.Prog{Locs: []api.Var{{Name: "x", N: n}}})
	}
}

func TestWrongNames(t *testing.T) {
	for _, s := range noNames {
		within(t, api.Prog{Locs: []api.Var{{Name: s}}})
		within(t, api.Prog{Threads: []api.Thread{{Name: s}}})
		within(t, api.Prog{Threads: []api.Thread{{Name: "t", Regs: []string{s}}}})
		within(t, api.Prog{Threads: []api.Thread{{Name: "t", Regs: []string{"a", s, "b"}}}})
		within(t, api.Prog{Claims: []api.Claim{{Kind: api.Forall, E: nodes(loc(s, 0))}}})
		within(t, api.Prog{Claims: []api.Claim{{Kind: api.Forall, E: nodes(of("t", s, 0))}}})
		within(t, api.Prog{Claims: []api.Claim{{Kind: api.Forall, E: nodes(of(s, "a", 0))}}})
		within(t, api.Prog{Threads: []api.Thread{{Name: "t", Body: []api.Stmt{{Kind: api.Load, Reg: s, Loc: "x"}}}}})
	}
}

func TestWrongBodies(t *testing.T) {
	skip := api.Stmt{Kind: api.Skip}
	for _, l := range [][]api.Stmt{
		{{}},
		{{Kind: 14}},
		{{Kind: api.Loop, Body: 1}},
		{skip, {Kind: api.Skip, At: -1}},
		{{Kind: api.Set, Reg: "a", E: nodes(num(10000, 0))}},
		{{Kind: api.Set, Reg: "a", E: nodes(loc("x", 0))}},
		{{Kind: api.Set, Reg: "a", E: nodes(of("t", "a", 0))}},
		{{Kind: api.Set, Reg: "a", E: nodes(num(1, -1))}},
		slices.Repeat([]api.Stmt{skip}, 201),
	} {
		within(t, api.Prog{Threads: []api.Thread{{Name: "t", Regs: []string{"a"}, Body: l}}})
	}
}

func TestWrongClaims(t *testing.T) {
	x := loc("x", 0)
	for _, kind := range []int{0, -1, 4, 5, math.MinInt, math.MaxInt} {
		within(t, api.Prog{Claims: []api.Claim{{Kind: kind, E: nodes(x)}}})
	}
	for _, l := range [][]api.Node{
		nil,
		{},
		{x, x},
		nodes(op(api.Add, 0), x),
		nodes(op(0, 0)),
		nodes(op(15, 0)),
		nodes(num(10000, 0)),
		nodes(num(-1, 0)),
		nodes(loc("x", -1)),
		nodes(reg("a", 0)),
		nodes(op(api.Not, 0), reg("a", 0)),
		nodes(op(api.Add, 0), x, reg("a", 0)),
		nodes(op(api.Add, 0), reg("a", 0), x),
		append(slices.Repeat(nodes(op(api.Not, 0)), 31), x),
	} {
		for kind := api.Forall; kind <= api.Always; kind++ {
			within(t, api.Prog{Claims: []api.Claim{{Kind: kind, E: l}}})
		}
	}
}

func TestOffsetsBelowZero(t *testing.T) {
	for _, at := range []int{-1, math.MinInt} {
		within(t, api.Prog{Locs: []api.Var{{Name: "x", At: at}}})
		within(t, api.Prog{Threads: []api.Thread{{Name: "t", At: at}}})
		within(t, api.Prog{Threads: []api.Thread{{Name: "t", Body: []api.Stmt{{Kind: api.Skip, At: at}}}}})
		within(t, api.Prog{Threads: []api.Thread{{Name: "t", Body: []api.Stmt{{Kind: api.Loop, Body: 1}, {Kind: api.Store, Loc: "x", E: nodes(num(0, at))}}}}})
		within(t, api.Prog{Claims: []api.Claim{{Kind: api.Always, E: nodes(num(0, 0)), At: at}}})
		within(t, api.Prog{Claims: []api.Claim{{Kind: api.Always, E: nodes(num(0, at))}}})
	}
}

// P4.2: Bare.

// bares fails the test unless Bare of a program is this one, which has no offsets any more.
func bares(t *testing.T, p, want api.Prog) {
	t.Helper()
	for _, x := range []api.Prog{p, want} {
		if got := prog.Bare(x); !same(got, want) {
			t.Errorf("Bare(%v) = %v, want %v", x, got, want)
		}
	}
}

func TestBare(t *testing.T) {
	bares(t, api.Prog{}, api.Prog{})
	bares(t, api.Prog{Locs: []api.Var{}, Threads: []api.Thread{}, Claims: []api.Claim{}}, api.Prog{})
	bares(t, parsed(t, " mod 3; loc x = 2; thread t { reg a, b; cas a = x, !b, 1; if b { } else { skip; } } exists t.a < x;"), api.Prog{
		Mod:  3,
		Locs: []api.Var{{Name: "x", N: 2}},
		Threads: []api.Thread{{Name: "t", Regs: []string{"a", "b"}, Body: []api.Stmt{
			{Kind: api.Cas, Reg: "a", Loc: "x", E: nodes(op(api.Not, 0), reg("b", 0)), F: nodes(num(1, 0))},
			{Kind: api.If, E: nodes(reg("b", 0)), Else: 1},
			{Kind: api.Skip},
		}}},
		Claims: []api.Claim{{Kind: api.Exists, E: nodes(op(api.Lt, 0), of("t", "a", 0), loc("x", 0))}},
	})
	good(t, prog.Bare(parsed(t, whole)), whole)
}

// Nothing but the offsets is set, also in programs that are not valid.
func TestBareOfOthers(t *testing.T) {
	n := api.Node{Op: -7, N: -8, Name: "9", In: "mod", At: -9}
	s := api.Stmt{Kind: 99, Reg: "?", Loc: "!", E: nodes(n, n), F: nodes(n), Ne: true, Body: -1, Else: math.MaxInt, At: math.MinInt}
	bareN, bareS := n, s
	bareN.At = 0
	bareS.E, bareS.F, bareS.At = nodes(bareN, bareN), nodes(bareN), 0
	bares(t, api.Prog{
		Mod:     -5,
		Locs:    []api.Var{{Name: "", N: -6, At: -1}, {Name: "if", N: math.MaxInt, At: math.MaxInt}},
		Threads: []api.Thread{{Name: "", Regs: []string{"", "0"}, Body: []api.Stmt{s, s}, At: -2}, {At: 3}},
		Claims:  []api.Claim{{Kind: -1, E: nodes(n), At: -3}, {Kind: 4, At: 1}},
	}, api.Prog{
		Mod:     -5,
		Locs:    []api.Var{{Name: "", N: -6}, {Name: "if", N: math.MaxInt}},
		Threads: []api.Thread{{Name: "", Regs: []string{"", "0"}, Body: []api.Stmt{bareS, bareS}}, {}},
		Claims:  []api.Claim{{Kind: -1, E: nodes(bareN)}, {Kind: 4}},
	})
}

// R4

// wipe clears all slices of a program, with their spare capacity, from the innermost ones on.
func wipe(p api.Prog) {
	for _, t := range p.Threads {
		for _, s := range t.Body {
			clear(s.E[:cap(s.E)])
			clear(s.F[:cap(s.F)])
		}
		clear(t.Regs[:cap(t.Regs)])
		clear(t.Body[:cap(t.Body)])
	}
	for _, c := range p.Claims {
		clear(c.E[:cap(c.E)])
	}
	clear(p.Locs[:cap(p.Locs)])
	clear(p.Threads[:cap(p.Threads)])
	clear(p.Claims[:cap(p.Claims)])
}

// apart fails the test if two lists of nodes of a program, or two of registers or statements,
// share memory.
func apart(t *testing.T, p api.Prog) {
	t.Helper()
	var lists [][]api.Node
	for _, u := range p.Threads {
		for _, s := range u.Body {
			lists = append(lists, s.E, s.F)
		}
	}
	for _, c := range p.Claims {
		lists = append(lists, c.E)
	}
	alone(t, lists)
	var regs [][]string
	var bodies [][]api.Stmt
	for _, u := range p.Threads {
		regs, bodies = append(regs, u.Regs), append(bodies, u.Body)
	}
	alone(t, regs)
	alone(t, bodies)
}

// alone fails the test if two lists share an element, of which each may be in the spare capacity.
func alone[T any](t *testing.T, lists [][]T) {
	t.Helper()
	owner := map[*T]int{}
	for i, l := range lists {
		l = l[:cap(l)]
		for k := range l {
			if first, ok := owner[&l[k]]; ok {
				t.Errorf("the lists %d and %d share an element", first, i)
			}
			owner[&l[k]] = i
		}
	}
}

// roomy is a program whose lists have spare capacity.
func roomy(t *testing.T) api.Prog {
	p := parsed(t, strings.Join(pieces, " "))
	p.Locs = append(p.Locs, p.Locs...)[:len(p.Locs)]
	p.Claims = append(p.Claims, p.Claims...)[:len(p.Claims)]
	p.Threads = append(p.Threads, p.Threads...)[:len(p.Threads)]
	for i := range p.Threads {
		u := &p.Threads[i]
		u.Regs = append(u.Regs, u.Regs...)[:len(u.Regs)]
		u.Body = append(u.Body, u.Body...)[:len(u.Body)]
	}
	return p
}

// full is a program with all that is in the spare capacity of its lists.
func full(p api.Prog) api.Prog {
	p.Locs, p.Claims = p.Locs[:cap(p.Locs)], p.Claims[:cap(p.Claims)]
	p.Threads = slices.Clone(p.Threads[:cap(p.Threads)])
	for i := range p.Threads {
		u := &p.Threads[i]
		u.Regs, u.Body = u.Regs[:cap(u.Regs)], u.Body[:cap(u.Body)]
	}
	return p
}

func TestProgramsAreKept(t *testing.T) {
	p, q := roomy(t), roomy(t)
	b := prog.Bare(p)
	if !prog.Right(p) || prog.Show(p) == "" || prog.Show(b) != prog.Show(p) {
		t.Fatal(p)
	}
	apart(t, b)
	wipe(b)
	if !same(full(p), full(q)) {
		t.Errorf("%v was changed to %v", q, p)
	}
	b = prog.Bare(p)
	wipe(p)
	if !same(b, prog.Bare(q)) {
		t.Error(b)
	}
	// Lists that an argument has twice are not shared in the result.
	e := nodes(loc("x", 3))
	v := api.Thread{Name: "t", Regs: []string{"a"}, Body: []api.Stmt{{Kind: api.Cas, E: e, F: e}}}
	apart(t, prog.Bare(api.Prog{Threads: []api.Thread{v, v}, Claims: []api.Claim{{E: e}, {E: e}}}))
}
