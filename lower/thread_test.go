package lower_test

import (
	"math"
	"slices"
	"strings"
	"testing"

	"spinnaker/api"
	"spinnaker/lower"
	"spinnaker/scan"
	"spinnaker/stmt"
)

var (
	regs = []string{"a", "b", "c"}
	locs = []string{"x", "y", "z"}
)

// statements are those that a text is.
func statements(t *testing.T, s string) []api.Stmt {
	t.Helper()
	l, e, at := scan.Scan(s)
	if e != api.OK {
		t.Fatalf("Scan(%q): %d, %d", s, e, at)
	}
	made, next, e, at := stmt.Parse(l, 0)
	if e != api.OK || next != len(l) {
		t.Fatalf("Parse(%q): %d, %d, %d", s, next, e, at)
	}
	return made
}

// becomes fails the test unless the statements of a text become this sequence.
func becomes(t *testing.T, s, want string) {
	t.Helper()
	if got := written(lower.Thread(statements(t, s), regs, locs)); got != want {
		t.Errorf("%s\n got %s\nwant %s", s, got, want)
	}
}

// P7.2: a statement of each kind.

func TestStatements(t *testing.T) {
	for _, c := range []struct{ text, want string }{
		{"", "done"},
		{"skip;", "done"},
		{"skip; skip;", "done"},
		{"set b = a + 1;", "set r1 = r0 1 +; done"},
		{"set a = 9999;", "set r0 = 9999; done"},
		{"load a = x;", "load r0 = l0; done"},
		{"load c = y;", "load r2 = l1; done"},
		{"store z = b < !c;", "store l2 = r1 r2 ! <; done"},
		{"cas b = z, a, 7;", "cas r1 = l2, r0, 7; done"},
		{"cas b = z, 7, a + c;", "cas r1 = l2, 7, r0 r2 +; done"},
		{"fadd c = x, a;", "fadd r2 = l0, r0; done"},
		{"xchg a = y, 0;", "xchg r0 = l1, 0; done"},
		{"fence;", "fence; done"},
		{"await y == a + 1;", "await l1 == r0 1 +; done"},
		{"await z != 2;", "await l2 != 2; done"},
		{"fence; skip; load a = x; skip; fence;", "fence; load r0 = l0; fence; done"},
	} {
		becomes(t, c.text, c.want)
	}
}

func TestBlocks(t *testing.T) {
	for _, c := range []struct{ text, want string }{
		{"if a { }", "branch 1 if not r0; done"},
		{"if a { skip; }", "branch 1 if not r0; done"},
		{"if a < b { fence; }", "branch 2 if not r0 r1 <; fence; done"},
		{"if a { fence; fence; } load a = x;", "branch 3 if not r0; fence; fence; load r0 = l0; done"},
		{"if a { fence; } else { }", "branch 2 if not r0; fence; done"},
		{"if a { } else { }", "branch 1 if not r0; done"},
		{"if a { } else { fence; }", "branch 2 if not r0; jump 3; fence; done"},
		{"if a { } else { skip; }", "branch 2 if not r0; jump 2; done"},
		{"if a { fence; } else { skip; }", "branch 3 if not r0; fence; jump 3; done"},
		{"if a { fence; fence; } else { load a = x; } fence;", "branch 4 if not r0; fence; fence; jump 5; load r0 = l0; fence; done"},
		{"while a { }", "branch 2 if not r0; jump 0; done"},
		{"while !a { skip; }", "branch 2 if not r0 !; jump 0; done"},
		{"while a { load a = x; }", "branch 3 if not r0; load r0 = l0; jump 0; done"},
		{"fence; while a { load a = x; } fence;", "fence; branch 4 if not r0; load r0 = l0; jump 1; fence; done"},
		{"loop { }", "jump 0; done"},
		{"loop { skip; }", "jump 0; done"},
		{"loop { fence; load a = x; }", "fence; load r0 = l0; jump 0; done"},
		{"fence; loop { } fence;", "fence; jump 1; fence; done"},
		{"fence; loop { load a = x; } fence;", "fence; load r0 = l0; jump 1; fence; done"},
	} {
		becomes(t, c.text, c.want)
	}
}

func TestNested(t *testing.T) {
	for _, c := range []struct{ text, want string }{
		{"if a { if b { fence; } }", "branch 3 if not r0; branch 3 if not r1; fence; done"},
		{"if a { if b { fence; } else { skip; } }", "branch 4 if not r0; branch 4 if not r1; fence; jump 4; done"},
		{"if a { } else { if b { } else { fence; } }", "branch 2 if not r0; jump 5; branch 4 if not r1; jump 5; fence; done"},
		{"while a { while b { } }", "branch 4 if not r0; branch 3 if not r1; jump 1; jump 0; done"},
		{"while a { loop { } }", "branch 3 if not r0; jump 1; jump 0; done"},
		{"loop { loop { } }", "jump 0; jump 0; done"},
		{"loop { loop { fence; } fence; }", "fence; jump 0; fence; jump 0; done"},
		{"loop { if a { fence; } else { loop { } } }", "branch 3 if not r0; fence; jump 4; jump 3; jump 0; done"},
		{"if a { while b { fence; } } else { loop { skip; } }", "branch 5 if not r0; branch 4 if not r1; fence; jump 1; jump 6; jump 5; done"},
	} {
		becomes(t, c.text, c.want)
	}
}

func TestBreaks(t *testing.T) {
	for _, c := range []struct{ text, want string }{
		{"loop { break; }", "jump 2; jump 0; done"},
		{"loop { break; break; }", "jump 3; jump 3; jump 0; done"},
		{"while a { break; }", "branch 3 if not r0; jump 3; jump 0; done"},
		{"fence; loop { break; fence; } fence;", "fence; jump 4; fence; jump 1; fence; done"},
		{"loop { if a { break; } }", "branch 2 if not r0; jump 3; jump 0; done"},
		{"loop { if a { fence; } else { break; } }", "branch 3 if not r0; fence; jump 4; jump 5; jump 0; done"},
		{"while a { if b { break; } fence; } fence;", "branch 5 if not r0; branch 3 if not r1; jump 5; fence; jump 0; fence; done"},
		// The innermost loop alone is left.
		{"loop { loop { break; } }", "jump 2; jump 0; jump 0; done"},
		{"loop { break; loop { break; } break; }", "jump 5; jump 3; jump 1; jump 5; jump 0; done"},
		{"loop { while a { break; } fence; }", "branch 3 if not r0; jump 3; jump 0; fence; jump 0; done"},
		{"while a { loop { if b { if c { break; } } } }", "branch 6 if not r0; branch 4 if not r1; branch 4 if not r2; jump 5; jump 1; jump 0; done"},
		{"while a { loop { } break; }", "branch 4 if not r0; jump 1; jump 4; jump 0; done"},
		{"loop { loop { } if a { break; } loop { break; } }", "jump 0; branch 3 if not r0; jump 6; jump 5; jump 3; jump 0; done"},
	} {
		becomes(t, c.text, c.want)
	}
}

// P7.2: there may be more names than a program has, and numbers beyond any Mod.

func TestManyNames(t *testing.T) {
	l := statements(t, "cas q = p, q + 9999, 16;")
	many := slices.Concat(make([]string, 500), []string{"p", "q", "p", "q"})
	want := "cas r501 = l500, r501 9999 +, 16; done"
	if got := written(lower.Thread(l, many, many)); got != want {
		t.Error(got)
	}
	if got := written(lower.Thread(statements(t, "skip; fence; loop { }"), nil, nil)); got != "fence; jump 1; done" {
		t.Error(got)
	}
}

// P7.2: as many statements as there may be.

func TestLongest(t *testing.T) {
	becomes(t, strings.Repeat("fence; ", api.MaxStmts), strings.Repeat("fence; ", api.MaxStmts)+"done")
	s := strings.Repeat("loop { ", api.MaxDepth) + "break; " + strings.Repeat("} ", api.MaxDepth)
	becomes(t, s, "jump 2; "+strings.Repeat("jump 0; ", api.MaxDepth)+"done")
}

// What is not promised of other statements: they have no instructions, and the call ends.

func TestNoInstructions(t *testing.T) {
	num := []api.Node{{Op: api.Num, N: 1}}
	fence := api.Stmt{Kind: api.Fence}
	lists := [][]api.Stmt{
		slices.Repeat([]api.Stmt{fence}, api.MaxStmts+1),
		slices.Repeat([]api.Stmt{{Kind: api.Skip}}, api.MaxStmts+1),
		{{}},
		{fence, {}},
		{{Kind: -1}},
		{{Kind: 14}},
		{{Kind: api.Jump}},
		{{Kind: api.Branch, E: num}},
		{{Kind: api.Done}},
		{{Kind: math.MaxInt}},
		{{Kind: api.Break}},
		{{Kind: api.Loop}, {Kind: api.Break}},
		{{Kind: api.If, E: num, Body: 1}, {Kind: api.Break}},
		{{Kind: api.Set, E: num}},
		{{Kind: api.Set, Reg: "q", E: num}},
		{{Kind: api.Set, Reg: "x", E: num}},
		{{Kind: api.Set, Reg: "a"}},
		{{Kind: api.Set, Reg: "a", E: []api.Node{{Op: api.Loc, Name: "x"}}}},
		{{Kind: api.Set, Reg: "a", E: []api.Node{{Op: api.Reg, Name: "x"}}}},
		{{Kind: api.Load, Reg: "a"}},
		{{Kind: api.Load, Reg: "a", Loc: "a"}},
		{{Kind: api.Cas, Reg: "a", Loc: "x", E: num}},
		{{Kind: api.Cas, Reg: "a", Loc: "x", F: num}},
		{{Kind: api.If}},
		{{Kind: api.While, E: []api.Node{{Op: api.Not}}}},
		{{Kind: api.Fence, Ne: true}},
	}
	for _, n := range []int{-1, 1, 2, math.MaxInt, math.MinInt} {
		lists = append(lists, []api.Stmt{{Kind: api.Loop, Body: n}})
		lists = append(lists, []api.Stmt{{Kind: api.If, E: num, Else: n}})
		lists = append(lists, []api.Stmt{{Kind: api.If, E: num, Body: n, Else: n}})
		lists = append(lists, []api.Stmt{{Kind: api.If, E: num, Body: 1, Else: n}, fence})
		lists = append(lists, []api.Stmt{{Kind: api.Loop, Body: 2}, {Kind: api.Loop, Body: n/2 + 2}, fence})
	}
	for _, l := range lists {
		if got := lower.Thread(l, regs, locs); got != nil {
			t.Errorf("Thread(%v) = %s", l, written(got))
		}
	}
	deep := make([]api.Stmt, 1<<16)
	for i := range deep {
		deep[i] = api.Stmt{Kind: api.Loop, Body: len(deep) - 1 - i}
	}
	if got := lower.Thread(deep, regs, locs); got != nil {
		t.Error(len(got))
	}
}

// R4

func TestThreadKeeps(t *testing.T) {
	l := paddedStmts(statements(t, "cas b = y, a + 1, !b; if a { while c { break; } } else { fence; } await x != 3;"))
	before := stmtsWritten(l)
	names, places := padded(regs, "spare"), padded(locs, "spare")
	first := lower.Thread(l, names, places)
	want := written(first)
	wipe(api.Unit{Code: [][]api.Instr{first}})
	if got := written(lower.Thread(l, names, places)); got != want || want == "" {
		t.Errorf("%s, want %s", got, want)
	}
	if lower.Thread(statements(t, "load spare = spare;"), names, places) != nil {
		t.Error("what is in the spare capacity is no name")
	}
	if stmtsWritten(l) != before || spare(names)[3] != "spare" || spare(places)[3] != "spare" {
		t.Error(l, names, places)
	}
	if !slices.Equal(names, []string{"a", "b", "c"}) || !slices.Equal(places, []string{"x", "y", "z"}) {
		t.Error(names, places)
	}
}
