package stmt_test

import (
	"math"
	"slices"
	"strings"
	"testing"

	"spinnaker/api"
	"spinnaker/stmt"
)

// valid is one statement of each kind that has no blocks, and its line.
var valid = []struct {
	s    api.Stmt
	line string
}{
	{api.Stmt{Kind: api.Skip}, "skip;"},
	{api.Stmt{Kind: api.Set, Reg: "a", E: nodes(op(api.Add, 0), reg("b", 0), num(1, 0))}, "set a = b + 1;"},
	{api.Stmt{Kind: api.Load, Reg: "a", Loc: "x"}, "load a = x;"},
	{api.Stmt{Kind: api.Store, Loc: "x", E: nodes(reg("a", 0))}, "store x = a;"},
	{api.Stmt{Kind: api.Cas, Reg: "a", Loc: "x", E: nodes(num(0, 0)), F: nodes(op(api.Not, 0), reg("b", 0))}, "cas a = x, 0, !b;"},
	{api.Stmt{Kind: api.Fadd, Reg: "a", Loc: "x", E: nodes(num(10, 0))}, "fadd a = x, 10;"},
	{api.Stmt{Kind: api.Xchg, Reg: "a", Loc: "x", E: nodes(reg("a", 0))}, "xchg a = x, a;"},
	{api.Stmt{Kind: api.Fence}, "fence;"},
	{api.Stmt{Kind: api.Await, Loc: "x", E: nodes(reg("a", 0))}, "await x == a;"},
	{api.Stmt{Kind: api.Await, Loc: "x", E: nodes(num(1, 0)), Ne: true}, "await x != 1;"},
	{api.Stmt{Kind: api.Break}, "break;"},
}

// good fails the test unless statements are valid, of this depth and with this text.
func good(t *testing.T, l []api.Stmt, depth int, text string) {
	t.Helper()
	if !stmt.Right(l) || stmt.Depth(l) != depth || stmt.Show(l, 0) != text {
		t.Errorf("%.200v: %v, depth %d, %q, want depth %d, %q", l, stmt.Right(l), stmt.Depth(l), stmt.Show(l, 0), depth, text)
	}
}

// bad fails the test unless statements are not valid.
func bad(t *testing.T, l ...api.Stmt) {
	t.Helper()
	if stmt.Right(l) || stmt.Show(l, 0) != "" || stmt.Show(l, 7) != "" {
		t.Errorf("%.200v: %v, %q, want it not to be valid", l, stmt.Right(l), stmt.Show(l, 0))
	}
}

// within fails the test unless a statement makes others not valid, wherever it stands.
func within(t *testing.T, s api.Stmt) {
	t.Helper()
	skip := api.Stmt{Kind: api.Skip}
	inside := s.Body + s.Else + 1
	nested := append([]api.Stmt{s}, slices.Repeat([]api.Stmt{skip}, inside-1)...)
	bad(t, nested...)
	bad(t, append([]api.Stmt{skip}, nested...)...)
	bad(t, append(nested, skip)...)
	bad(t, append([]api.Stmt{{Kind: api.Loop, Body: inside}}, nested...)...)
	bad(t, append([]api.Stmt{{Kind: api.If, E: nodes(num(1, 0)), Body: 1, Else: inside}, skip}, nested...)...)
}

// P3.2 and P3.3: valid statements.

func TestValidKinds(t *testing.T) {
	if len(valid) != 11 {
		t.Fatal(len(valid))
	}
	for _, v := range valid {
		v.s.At = math.MaxInt
		good(t, []api.Stmt{v.s}, 0, v.line+"\n")
		if s := stmt.Show([]api.Stmt{v.s}, 3); s != "      "+v.line+"\n" {
			t.Errorf("%q", s)
		}
		// Empty lists are none, and offsets do not have to be in any order.
		if v.s.E == nil {
			v.s.E = []api.Node{}
		}
		if v.s.F == nil {
			v.s.F = []api.Node{}
		}
		good(t, []api.Stmt{{Kind: api.Loop, Body: 1, E: []api.Node{}, F: []api.Node{}}, v.s}, 1, "loop {\n  "+v.line+"\n}\n")
	}
}

func TestValidBlocks(t *testing.T) {
	skip, fence := api.Stmt{Kind: api.Skip}, api.Stmt{Kind: api.Fence}
	a := nodes(op(api.Ne, 0), reg("a", 0), num(0, 0))
	good(t, []api.Stmt{{Kind: api.Loop}}, 1, "loop {\n}\n")
	good(t, []api.Stmt{{Kind: api.While, E: a}}, 1, "while a != 0 {\n}\n")
	good(t, []api.Stmt{{Kind: api.If, E: a}}, 1, "if a != 0 {\n}\n")
	good(t, []api.Stmt{{Kind: api.If, E: a, Body: 1}, skip}, 1, "if a != 0 {\n  skip;\n}\n")
	good(t, []api.Stmt{{Kind: api.If, E: a, Else: 1}, skip}, 1, "if a != 0 {\n} else {\n  skip;\n}\n")
	good(t, []api.Stmt{{Kind: api.If, E: a, Body: 1, Else: 2}, skip, fence, skip, fence}, 1, "if a != 0 {\n  skip;\n} else {\n  fence;\n  skip;\n}\nfence;\n")
	good(t, []api.Stmt{
		{Kind: api.If, E: a, Body: 2, Else: 3},
		{Kind: api.Loop, Body: 1}, {Kind: api.While, E: a},
		{Kind: api.If, E: a, Else: 1}, skip,
		{Kind: api.Loop},
		fence,
	}, 3, "if a != 0 {\n  loop {\n    while a != 0 {\n    }\n  }\n} else {\n  if a != 0 {\n  } else {\n    skip;\n  }\n  loop {\n  }\n}\nfence;\n")
}

func TestNoStatements(t *testing.T) {
	for _, l := range [][]api.Stmt{nil, {}} {
		good(t, l, 0, "")
		if len(stmt.Tops(l)) != 0 || stmt.Show(l, 100) != "" {
			t.Error(stmt.Tops(l))
		}
	}
}

func TestShowIndentation(t *testing.T) {
	l := parsed(t, "if a { loop { skip; } } else { fence; }")
	for _, deep := range []int{0, 1, 2, 99, 100} {
		in := strings.Repeat(" ", 2*deep)
		want := in + "if a {\n" + in + "  loop {\n" + in + "    skip;\n" + in + "  }\n" + in + "} else {\n" + in + "  fence;\n" + in + "}\n"
		if s := stmt.Show(l, deep); s != want {
			t.Errorf("Show with deep %d: %q", deep, s)
		}
	}
	for _, deep := range []int{-1, -2, 101, 102, math.MinInt, math.MaxInt} {
		if s := stmt.Show(l, deep); s != "" {
			t.Errorf("Show with deep %d: %q", deep, s)
		}
	}
	nested := parsed(t, strings.Repeat("loop{", 30)+strings.Repeat("}", 30))
	if lines := strings.Split(stmt.Show(nested, 100), "\n"); len(lines) != 61 || lines[29] != strings.Repeat(" ", 258)+"loop {" || lines[30] != strings.Repeat(" ", 258)+"}" || lines[59] != strings.Repeat(" ", 200)+"}" || lines[60] != "" {
		t.Error(lines)
	}
}

func TestShowTokens(t *testing.T) {
	for s, want := range map[string]string{
		" set  a=b+1 ;":                "set a = b + 1;\n",
		"set a=(b);set c=0042;":        "set a = b;\nset c = 42;\n",
		"cas a=x,b+c*2,!(d||e);":       "cas a = x, b + (c * 2), !(d || e);\n",
		"fadd a=x,0-1;":                "fadd a = x, 0 - 1;\n",
		"xchg a=x,(b<c);":              "xchg a = x, b < c;\n",
		"await x==a==b;":               "await x == a == b;\n",
		"await x!=(a!=b);":             "await x != a != b;\n",
		"if(a){}":                      "if a {\n}\n",
		"if a{}else{}":                 "if a {\n}\n",
		"if a{skip;}else{}fence;":      "if a {\n  skip;\n}\nfence;\n",
		"while !a{if b{fence;}}":       "while !a {\n  if b {\n    fence;\n  }\n}\n",
		"while a!=0{load a=x;}":        "while a != 0 {\n  load a = x;\n}\n",
		"loop{if a{break;}store x=1;}": "loop {\n  if a {\n    break;\n  }\n  store x = 1;\n}\n",
	} {
		l, _, _, _ := stmt.Parse(tokens(t, s), 0)
		if got := stmt.Show(l, 0); got != want {
			t.Errorf("%q is shown as %q, want %q", s, got, want)
		}
	}
}

// P3.2 and P3.3: statements that are not valid.

func TestNoSuchKind(t *testing.T) {
	for _, kind := range []int{0, -1, 14, 15, 20, 22, math.MaxInt, math.MinInt} {
		within(t, api.Stmt{Kind: kind})
		within(t, api.Stmt{Kind: kind, Reg: "a", Loc: "x", E: nodes(num(1, 0)), F: nodes(num(1, 0))})
		within(t, api.Stmt{Kind: kind, Body: 1})
		within(t, api.Stmt{Kind: kind, Body: 1, Else: 1})
	}
}

// has tells for each kind which fields it has, in the order Reg, Loc, E, F, Ne, Body, Else.
var has = map[int]string{
	api.Skip:  ".......",
	api.Set:   "r.e....",
	api.Load:  "rl.....",
	api.Store: ".le....",
	api.Cas:   "rlef...",
	api.Fadd:  "rle....",
	api.Xchg:  "rle....",
	api.Fence: ".......",
	api.Await: ".le.n..",
	api.If:    "..e..bo",
	api.While: "..e..b.",
	api.Loop:  ".....b.",
	api.Break: ".......",
}

// filled is a statement with these of its fields, and as many skips as it counts.
func filled(kind int, fields string) []api.Stmt {
	s := api.Stmt{Kind: kind}
	l := []api.Stmt{s}
	for _, c := range fields {
		switch c {
		case 'r':
			s.Reg = "a"
		case 'l':
			s.Loc = "x"
		case 'e':
			s.E = nodes(num(1, 0))
		case 'f':
			s.F = nodes(reg("b", 0))
		case 'n':
			s.Ne = true
		case 'b':
			s.Body = 1
			l = append(l, api.Stmt{Kind: api.Skip})
		case 'o':
			s.Else = 1
			l = append(l, api.Stmt{Kind: api.Skip})
		}
	}
	l[0] = s
	return l
}

// All sets of fields for each kind: those that are required, and no others but the optional ones.
func TestFieldsOfKinds(t *testing.T) {
	const all = "rlefnbo"
	for kind, can := range has {
		for set := range 1 << len(all) {
			fields, right := "", true
			for i, c := range all {
				is := set>>i&1 == 1
				if is {
					fields += string(c)
				}
				optional := strings.ContainsRune("nbo", c)
				right = right && (is == strings.ContainsRune(can, c) || optional && !is)
			}
			l := filled(kind, fields)
			if stmt.Right(l) != right || (stmt.Show(l, 0) != "") != right {
				t.Errorf("kind %d with the fields %q: %v, %q", kind, fields, stmt.Right(l), stmt.Show(l, 0))
			}
		}
	}
}

func TestWrongNames(t *testing.T) {
	for _, s := range []string{"", "0", "9a", "a b", " a", "a.b", "a\n", "\xff", "\u00e9", "abcdefghijklmnopq", "mod", "if", "always", "skip", "else", ";"} {
		for _, v := range valid {
			if v.s.Reg != "" {
				x := v.s
				x.Reg = s
				within(t, x)
			}
			if v.s.Loc != "" {
				x := v.s
				x.Loc = s
				within(t, x)
			}
		}
	}
}

func TestWrongExpressions(t *testing.T) {
	a := reg("a", 0)
	for _, e := range [][]api.Node{
		nil,
		{},
		nodes(a, a),
		nodes(op(api.Add, 0), a),
		nodes(op(0, 0)),
		nodes(op(15, 0)),
		nodes(num(10000, 0)),
		nodes(num(-1, 0)),
		nodes(num(1, -1)),
		nodes(reg("while", 0)),
		nodes(api.Node{Op: api.Loc, Name: "x"}),
		nodes(api.Node{Op: api.Of, Name: "a", In: "t"}),
		nodes(op(api.Not, 0), api.Node{Op: api.Loc, Name: "x"}),
		nodes(op(api.Add, 0), a, api.Node{Op: api.Loc, Name: "x"}),
		nodes(op(api.Add, 0), api.Node{Op: api.Of, Name: "a", In: "t"}, a),
		append(slices.Repeat(nodes(op(api.Not, 0)), 31), a),
	} {
		for kind, can := range has {
			if strings.Contains(can, "e") {
				x := filled(kind, strings.ReplaceAll(can, "n", ""))[0]
				x.E = e
				within(t, x)
			}
			if strings.Contains(can, "f") {
				x := filled(kind, can)[0]
				x.F = e
				within(t, x)
			}
		}
	}
	good(t, []api.Stmt{{Kind: api.While, E: append(slices.Repeat(nodes(op(api.Not, 0)), 30), a)}}, 1, "while "+strings.Repeat("!", 30)+"a {\n}\n")
}

func TestOffsetsBelowZero(t *testing.T) {
	for _, at := range []int{-1, math.MinInt} {
		for kind, can := range has {
			l := filled(kind, can)
			l[0].At = at
			within(t, l[0])
		}
	}
}

func TestValidLimits(t *testing.T) {
	skips := slices.Repeat([]api.Stmt{{Kind: api.Skip}}, 201)
	good(t, skips[:200], 0, strings.Repeat("skip;\n", 200))
	bad(t, skips...)
	l := slices.Clone(skips)
	l[0] = api.Stmt{Kind: api.Loop, Body: 199}
	good(t, l[:200], 1, "loop {\n"+strings.Repeat("  skip;\n", 199)+"}\n")
	l[0].Body = 200
	bad(t, l...)
	bad(t, slices.Repeat(skips, 10000)...)
	for _, first := range []api.Stmt{{Kind: api.Loop}, {Kind: api.While, E: nodes(num(1, 0))}, {Kind: api.If, E: nodes(num(1, 0))}} {
		if deep := nest(first, 30); !stmt.Right(deep) || stmt.Depth(deep) != 30 || stmt.Show(deep, 0) == "" {
			t.Error(first)
		}
		if deep := nest(first, 31); stmt.Depth(deep) != 31 {
			t.Error(first)
		} else {
			bad(t, deep...)
			bad(t, append([]api.Stmt{{Kind: api.Skip}}, deep...)...)
		}
	}
	// Statements after one another, or without blocks, make nothing deeper.
	bad(t, append(nest(api.Stmt{Kind: api.Loop}, 30), nest(api.Stmt{Kind: api.Loop}, 31)...)...)
	good(t, []api.Stmt{{Kind: api.Loop}, {Kind: api.Loop}}, 1, "loop {\n}\nloop {\n}\n")
	inner := nest(api.Stmt{Kind: api.Loop}, 30)
	inner = append(inner, api.Stmt{Kind: api.Break})
	for i := range 30 {
		inner[i].Body++
	}
	if !stmt.Right(inner) || stmt.Depth(inner) != 30 {
		t.Error(inner)
	}
}

// nest is n statements, each in the Body of the one before it.
func nest(s api.Stmt, n int) []api.Stmt {
	l := slices.Repeat([]api.Stmt{s}, n)
	for i := range l {
		l[i].Body = n - 1 - i
	}
	return l
}

// P3.2: Tops and Depth.

// shaped fails the test unless statements of any kinds have these Tops and this Depth.
func shaped(t *testing.T, l []api.Stmt, depth int, tops ...int) {
	t.Helper()
	before := slices.Clone(l)
	if got := stmt.Tops(l); !slices.Equal(got, tops) || stmt.Depth(l) != depth {
		t.Errorf("%.200v: %v, %d, want %v, %d", l, got, stmt.Depth(l), tops, depth)
	}
	if !same(l, before) {
		t.Errorf("%v was changed to %v", before, l)
	}
}

// broken fails the test unless statements are not complete.
func broken(t *testing.T, l ...api.Stmt) {
	t.Helper()
	if got := stmt.Tops(l); got != nil || stmt.Depth(l) != -1 {
		t.Errorf("%.200v: %v, %d, want it not to be complete", l, got, stmt.Depth(l))
	}
	bad(t, l...)
}

func TestTops(t *testing.T) {
	shaped(t, parsed(t, "skip;"), 0, 0)
	shaped(t, parsed(t, "skip; fence; break;"), 0, 0, 1, 2)
	shaped(t, parsed(t, "loop { } skip; if a { } else { }"), 1, 0, 1, 2)
	shaped(t, parsed(t, "loop { skip; } skip;"), 1, 0, 2)
	shaped(t, parsed(t, "if a { skip; } else { fence; skip; } while b { loop { break; } } skip;"), 2, 0, 4, 7)
	shaped(t, parsed(t, "if a { } else { loop { while b { } } }"), 3, 0)
	shaped(t, parsed(t, "loop { loop { } } loop { loop { loop { } } skip; } loop { loop { } }"), 3, 0, 2, 6)
	shaped(t, parsed(t, "if a { loop { } } else { skip; }"), 2, 0)
	tops := stmt.Tops(parsed(t, "skip; skip;"))
	clear(tops[:cap(tops)])
	if got := stmt.Tops(parsed(t, "skip; skip;")); !slices.Equal(got, []int{0, 1}) {
		t.Error(got)
	}
}

// Fields besides Body and Else, and the limits, do not matter to Tops and Depth.
func TestTopsOfOthers(t *testing.T) {
	shaped(t, []api.Stmt{{Kind: api.While, At: -1}, {Kind: api.If, Reg: "0"}, {Kind: -7}}, 1, 0, 1, 2)
	shaped(t, slices.Repeat([]api.Stmt{{Kind: api.Skip}}, 300), 0, func() (l []int) {
		for i := range 300 {
			l = append(l, i)
		}
		return
	}()...)
	shaped(t, nest(api.Stmt{Kind: api.Loop}, 40), 40, 0)
	shaped(t, nest(api.Stmt{Kind: api.If}, 1<<16), 1<<16, 0)
	// An Else of While and Loop is nested in them as well.
	shaped(t, []api.Stmt{{Kind: api.Loop, Else: 1}, {Kind: api.Loop}}, 2, 0)
	shaped(t, []api.Stmt{{Kind: api.While, Body: 1, Else: 2}, {}, {Kind: api.While, Else: 1}, {Kind: api.If}}, 3, 0)
}

// What other kinds count is nested in them, but it is ignored by Depth.
func TestTopsOfOtherKinds(t *testing.T) {
	loop := api.Stmt{Kind: api.Loop}
	for _, kind := range []int{api.Skip, api.Set, api.Load, api.Store, api.Cas, api.Fadd, api.Xchg, api.Fence, api.Await, api.Break, 0, -1, 14, math.MaxInt, math.MinInt} {
		shaped(t, []api.Stmt{{Kind: kind, Body: 1}, loop}, 0, 0)
		shaped(t, []api.Stmt{{Kind: kind, Else: 1}, loop}, 0, 0)
		shaped(t, []api.Stmt{{Kind: kind, Body: 1, Else: 2}, loop, {Kind: api.Loop, Body: 1}, loop, loop}, 1, 0, 4)
		shaped(t, []api.Stmt{{Kind: api.If, Body: 2, Else: 2}, {Kind: kind, Body: 1}, loop, {Kind: kind, Else: 1}, loop}, 1, 0)
		shaped(t, []api.Stmt{{Kind: api.While, Body: 3}, {Kind: kind, Body: 1}, loop, loop}, 2, 0)
		broken(t, api.Stmt{Kind: kind, Body: 1})
		broken(t, api.Stmt{Kind: kind, Else: 1})
		broken(t, api.Stmt{Kind: kind, Body: -1})
		broken(t, api.Stmt{Kind: kind, Body: 1}, api.Stmt{Kind: api.Loop, Body: 1})
		broken(t, api.Stmt{Kind: kind, Body: 1}, api.Stmt{Kind: api.Loop, Body: 1}, loop)
		broken(t, loop, api.Stmt{Kind: api.Loop, Body: 1}, api.Stmt{Kind: kind, Else: 1})
	}
}

func TestNotComplete(t *testing.T) {
	skip, one := api.Stmt{Kind: api.Skip}, nodes(num(1, 0))
	for _, s := range []api.Stmt{{Kind: api.Loop}, {Kind: api.While, E: one}, {Kind: api.If, E: one}} {
		for _, c := range []struct{ body, other, follow int }{
			{1, 0, 0}, {2, 0, 1}, {0, 1, 0}, {0, 2, 1}, {1, 1, 0}, {1, 1, 1}, {2, 2, 3},
			{-1, 0, 0}, {-1, 0, 3}, {0, -1, 0}, {0, -1, 3}, {-1, 1, 0}, {-1, 2, 1}, {1, -1, 0}, {1, -1, 1}, {2, -1, 1}, {3, -2, 1}, {-2, 3, 1},
			{math.MaxInt, 0, 3}, {0, math.MaxInt, 3}, {1, math.MaxInt, 3}, {math.MaxInt, 1, 3}, {math.MaxInt, math.MaxInt, 3}, {math.MaxInt, math.MaxInt, 0},
			{math.MinInt, 0, 3}, {0, math.MinInt, 3}, {math.MinInt, math.MinInt, 0}, {math.MinInt, math.MaxInt, 3}, {math.MaxInt, math.MinInt, 3}, {math.MinInt, math.MinInt, 1},
		} {
			s.Body, s.Else = c.body, c.other
			l := append([]api.Stmt{s}, slices.Repeat([]api.Stmt{skip}, c.follow)...)
			broken(t, l...)
			broken(t, append([]api.Stmt{skip}, l...)...)
			broken(t, append([]api.Stmt{{Kind: api.Loop, Body: len(l)}}, l...)...)
		}
	}
	// What is nested must not reach beyond its block, whatever follows.
	broken(t, api.Stmt{Kind: api.Loop, Body: 1}, api.Stmt{Kind: api.Loop, Body: 1}, skip)
	broken(t, api.Stmt{Kind: api.If, E: one, Body: 1, Else: 1}, api.Stmt{Kind: api.Loop, Body: 1}, skip)
	broken(t, api.Stmt{Kind: api.If, E: one, Body: 1, Else: 1}, skip, api.Stmt{Kind: api.Loop, Body: 1}, skip)
	broken(t, api.Stmt{Kind: api.Loop, Body: 2}, skip, api.Stmt{Kind: api.Loop, Body: 1})
	broken(t, api.Stmt{Kind: api.Loop, Body: 1}, skip, api.Stmt{Kind: api.Loop, Body: 1})
	broken(t, nest(api.Stmt{Kind: api.Loop}, 1<<16)[:1<<16-1]...)
}

// R4
func TestShowKeepsStatements(t *testing.T) {
	l := parsed(t, "if a + 1 { cas a = x, !b, c; } else { loop { set b = b * 2; } } await x != 0;")
	room := append(slices.Clone(l), valid[1].s)
	before := parsed(t, "if a + 1 { cas a = x, !b, c; } else { loop { set b = b * 2; } } await x != 0;")
	if !stmt.Right(room[:len(l)]) || stmt.Depth(room[:len(l)]) != 2 || len(stmt.Tops(room[:len(l)])) != 2 || stmt.Show(room[:len(l)], 5) == "" {
		t.Error(l)
	}
	if !same(room, append(before, valid[1].s)) {
		t.Error(room)
	}
}
