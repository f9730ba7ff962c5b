package lower_test

import (
	"math"
	"slices"
	"strconv"
	"strings"
	"testing"

	"spinnaker/api"
	"spinnaker/legal"
	"spinnaker/lower"
	"spinnaker/prog"
)

// written is a sequence as a text, with a ? behind an instruction that has a field which its kind
// has not.
func written(l []api.Instr) string {
	var texts []string
	for _, x := range l {
		rest := x
		text := kindWritten(x, &rest)
		if rest.Op != 0 || rest.Reg != 0 || rest.Loc != 0 || rest.To != 0 || rest.Ne || len(rest.E) > 0 || len(rest.F) > 0 {
			text += "?"
		}
		texts = append(texts, text)
	}
	return strings.Join(texts, "; ")
}

// kindWritten is an instruction as a text. What the text tells becomes zero in rest.
func kindWritten(x api.Instr, rest *api.Instr) string {
	rest.Op = 0
	reg := func() string { rest.Reg = 0; return "r" + strconv.Itoa(x.Reg) }
	loc := func() string { rest.Loc = 0; return "l" + strconv.Itoa(x.Loc) }
	to := func() string { rest.To = 0; return strconv.Itoa(x.To) }
	e := func() string { rest.E = nil; return codeWritten(x.E) }
	f := func() string { rest.F = nil; return codeWritten(x.F) }
	switch x.Op {
	case api.Set:
		return "set " + reg() + " = " + e()
	case api.Load:
		return "load " + reg() + " = " + loc()
	case api.Store:
		return "store " + loc() + " = " + e()
	case api.Cas:
		return "cas " + reg() + " = " + loc() + ", " + e() + ", " + f()
	case api.Fadd:
		return "fadd " + reg() + " = " + loc() + ", " + e()
	case api.Xchg:
		return "xchg " + reg() + " = " + loc() + ", " + e()
	case api.Fence:
		return "fence"
	case api.Await:
		rest.Ne = false
		if x.Ne {
			return "await " + loc() + " != " + e()
		}
		return "await " + loc() + " == " + e()
	case api.Jump:
		return "jump " + to()
	case api.Branch:
		return "branch " + to() + " if not " + e()
	case api.Done:
		return "done"
	}
	return "kind " + strconv.Itoa(x.Op)
}

// codeWritten is code as a text: 7 pushes a number, r7 a register, op7 is an operator.
func codeWritten(l []api.Op) string {
	var words []string
	for _, o := range l {
		word := "op" + strconv.Itoa(o.Op)
		switch o.Op {
		case api.Num:
			word = strconv.Itoa(o.N)
		case api.Reg:
			word = "r" + strconv.Itoa(o.N)
		case api.Add:
			word = "+"
		case api.Not:
			word = "!"
		case api.Lt:
			word = "<"
		}
		words = append(words, word)
	}
	return strings.Join(words, " ")
}

// parsed is the program that a text is.
func parsed(t *testing.T, s string) api.Prog {
	t.Helper()
	p, e, at := prog.Parse(s)
	if e != api.OK {
		t.Fatalf("Parse(%q): %d, %d", s, e, at)
	}
	return p
}

// made is the unit of a program. The test fails if there is none, or it is not valid.
func made(t *testing.T, p api.Prog) api.Unit {
	t.Helper()
	u, e, at := lower.Make(p)
	if e != api.OK || at != 0 || !lower.Right(u) {
		t.Fatalf("Make(%v) = %v, %d, %d", p, u, e, at)
	}
	return u
}

// unitWritten is a unit as a text, a line each.
func unitWritten(u api.Unit) string {
	s := "mod " + strconv.Itoa(u.Mod)
	for _, n := range u.Init {
		s += " " + strconv.Itoa(n)
	}
	s += "\n" + strconv.Itoa(len(u.Code)) + " threads\n"
	for _, n := range u.Regs {
		s += strconv.Itoa(n) + " registers\n"
	}
	for _, l := range u.Code {
		s += written(l) + "\n"
	}
	return s
}

// isUnit fails the test unless a program's unit is written so.
func isUnit(t *testing.T, p api.Prog, lines ...string) {
	t.Helper()
	if got, want := unitWritten(made(t, p)), strings.Join(lines, "\n")+"\n"; got != want {
		t.Errorf("Make(%v):\n%swant\n%s", p, got, want)
	}
}

// refused fails the test unless Make returns the error and the offset of Check, and no unit.
func refused(t *testing.T, p api.Prog, e api.Errno) {
	t.Helper()
	wantE, wantAt := legal.Check(p)
	u, gotE, at := lower.Make(p)
	if gotE != e || wantE != e || at != wantAt {
		t.Errorf("Make(%v): %d, %d, want %d, %d", p, gotE, at, wantE, wantAt)
	}
	if u.Mod != 0 || u.Init != nil || u.Regs != nil || u.Code != nil {
		t.Errorf("Make(%v) with an error: %v", p, u)
	}
}

// P7.1: units.

func TestMake(t *testing.T) {
	isUnit(t, parsed(t, "mod 2; thread t { }"), "mod 2", "1 threads", "0 registers", "done")
	isUnit(t, parsed(t, "mod 16; loc x = 15; thread t { reg a; }"), "mod 16 15", "1 threads", "1 registers", "done")
	isUnit(t, parsed(t, `mod 5; loc z = 4; loc x = 0; loc y = 1;
		thread t { reg b, a; load a = x; load b = y; store z = a + b; }
		thread v { }
		thread u { reg a, b, c; load a = x; xchg b = y, c; while c { fence; } }
		thread w { reg z1; await z != 4; }`),
		"mod 5 4 0 1", "4 threads", "2 registers", "0 registers", "3 registers", "1 registers",
		"load r1 = l1; load r0 = l2; store l0 = r1 r0 +; done",
		"done",
		"load r0 = l1; xchg r1 = l2, r2; branch 5 if not r2; fence; jump 2; done",
		"await l0 != 4; done")
}

func TestMakeAtLimits(t *testing.T) {
	s := "mod 16;"
	for _, name := range []string{"l", "m", "n", "o", "p", "q"} {
		s += "loc " + name + " = 15;"
	}
	for _, name := range []string{"t", "u", "v", "w"} {
		s += "thread " + name + " { reg a, b, c, d, e, f; load f = q; store l = a + 15; }"
	}
	row := "load r5 = l5; store l0 = r0 15 +; done"
	isUnit(t, parsed(t, s+"always w.f != q + 15;"), "mod 16 15 15 15 15 15 15", "4 threads",
		"6 registers", "6 registers", "6 registers", "6 registers", row, row, row, row)
}

// The claims and the offsets of a program are not part of its unit.
func TestMakeWithoutClaims(t *testing.T) {
	const s = "mod 4; loc x = 1; thread t { reg a; cas a = x, 1, a; loop { if a { break; } } }"
	want := unitWritten(made(t, parsed(t, s)))
	for _, p := range []api.Prog{
		parsed(t, s+"exists t.a == x; always 3;"),
		parsed(t, "\n # more\n"+strings.ReplaceAll(s, ";", " ;\n")),
		prog.Bare(parsed(t, s+"forall 1;")),
	} {
		if got := unitWritten(made(t, p)); got != want {
			t.Errorf("%s, want %s", got, want)
		}
	}
}

// P7.1: what is not well-formed.

func TestMakeRefuses(t *testing.T) {
	for _, c := range []struct {
		text string
		e    api.Errno
	}{
		{"mod 1; thread t { }", api.ErrRange},
		{"mod 17; thread t { }", api.ErrRange},
		{"mod 4; loc x = 4; thread t { }", api.ErrRange},
		{"mod 4; loc x = 0; loc x = 0; thread t { }", api.ErrTwice},
		{"mod 4; loc a = 0; loc b = 0; loc c = 0; loc d = 0; loc e = 0; loc f = 0; loc g = 0; thread t { }", api.ErrCount},
		{"mod 4; loc x = 0;", api.ErrCount},
		{"mod 4; thread t { } thread u { } thread v { } thread w { } thread x { }", api.ErrCount},
		{"mod 4; thread t { } thread t { }", api.ErrTwice},
		{"mod 4; thread t { reg a, b, c, d, e, f, g; }", api.ErrCount},
		{"mod 4; thread t { reg a, a; }", api.ErrTwice},
		{"mod 4; loc x = 0; thread t { reg x; }", api.ErrTwice},
		{"mod 4; thread t { skip; break; }", api.ErrBreak},
		{"mod 4; thread t { loop { } if 1 { break; } }", api.ErrBreak},
		{"mod 4; loc x = 0; thread t { load a = x; }", api.ErrName},
		{"mod 4; thread t { reg a; fence; load a = x; }", api.ErrName},
		{"mod 4; thread t { reg a; set a = a + b; }", api.ErrName},
		{"mod 4; loc x = 0; thread t { reg a; set a = x; }", api.ErrName},
		{"mod 4; thread t { reg a; set a = 4; }", api.ErrRange},
		{"mod 4; thread t { reg a; } forall u.a;", api.ErrName},
		{"mod 4; thread t { reg a; } forall t.a == 4;", api.ErrRange},
		{"mod 4; thread t { } " + strings.Repeat("forall 1;", 9), api.ErrCount},
	} {
		refused(t, parsed(t, c.text), c.e)
	}
	refused(t, api.Prog{}, api.ErrRange)
	refused(t, api.Prog{Mod: 2}, api.ErrCount)
	refused(t, api.Prog{Mod: math.MinInt, Threads: make([]api.Thread, 9)}, api.ErrForm)
	for _, s := range []api.Stmt{{}, {Kind: 99}, {Kind: api.Set}, {Kind: api.Loop, Body: 1}, {Kind: api.Fence, Ne: true}, {Kind: api.If, Body: math.MaxInt, Else: 1}} {
		refused(t, api.Prog{Mod: 2, Threads: []api.Thread{{Name: "t", Body: []api.Stmt{s}}}}, api.ErrForm)
	}
}

// P7.4

// bounded fails the test if a thread has more instructions than twice its statements, plus one.
func bounded(t *testing.T, p api.Prog) {
	t.Helper()
	for i, l := range made(t, p).Code {
		if n := len(p.Threads[i].Body); len(l) > 2*n+1 {
			t.Errorf("thread %d: %d instructions of %d statements", i, len(l), n)
		}
	}
}

func TestMost(t *testing.T) {
	for text, times := range map[string]int{
		"while 1 { } ":               api.MaxStmts,
		"if 1 { } else { skip; } ":   api.MaxStmts / 2,
		"loop { break; } ":           api.MaxStmts / 2,
		"skip; ":                     api.MaxStmts,
		"if 1 { while 1 { fence; }}": api.MaxStmts / 3,
	} {
		p := parsed(t, "mod 2; thread t { "+strings.Repeat(text, times)+"} thread u { "+text+"}")
		bounded(t, p)
		// The sequence of a text that is repeated repeats what the text becomes.
		u := made(t, p)
		if once, many := len(u.Code[1])-1, len(u.Code[0])-1; many != times*once {
			t.Errorf("%s: %d of %d", text, many, once)
		}
	}
	deep := strings.Repeat("while 1 { ", api.MaxDepth) + strings.Repeat("} ", api.MaxDepth)
	p := parsed(t, "mod 2; thread t { "+strings.Repeat(deep, 6)+"}")
	bounded(t, p)
	if n := len(made(t, p).Code[0]); n != 12*api.MaxDepth+1 {
		t.Error(n)
	}
}

// R4

// padded is a list with a marked element in its spare capacity.
func padded[T any](l []T, mark T) []T {
	x := make([]T, 0, len(l)+1)
	return append(append(x, l...), mark)[:len(l)]
}

// spare is a list with what is in its spare capacity.
func spare[T any](l []T) []T {
	return l[:cap(l)]
}

// paddedStmts are statements in which each list has spare capacity.
func paddedStmts(l []api.Stmt) []api.Stmt {
	l = padded(l, api.Stmt{Kind: 99})
	for i := range l {
		l[i].E, l[i].F = padded(l[i].E, api.Node{Op: 99}), padded(l[i].F, api.Node{Op: 99})
	}
	return l
}

// stmtsWritten is all that statements are, with what is in their spare capacity.
func stmtsWritten(l []api.Stmt) string {
	s := ""
	for _, x := range spare(l) {
		n := strconv.Itoa
		s += n(x.Kind) + x.Reg + "," + x.Loc + n(x.Body) + n(x.Else) + n(x.At) + strconv.FormatBool(x.Ne)
		for _, e := range append(slices.Clone(spare(x.E)), spare(x.F)...) {
			s += " " + n(e.Op) + n(e.N) + e.Name + n(e.At)
		}
		s += ";"
	}
	return s
}

func TestMakeKeeps(t *testing.T) {
	p := parsed(t, "mod 4; loc x = 1; loc y = 2; thread t { reg a, b; cas b = y, a + 1, !b; while a { break; } } thread u { reg c; await x != c; }")
	p.Locs = padded(p.Locs, api.Var{Name: "spare"})
	for i := range p.Threads {
		p.Threads[i].Regs = padded(p.Threads[i].Regs, "spare")
		p.Threads[i].Body = paddedStmts(p.Threads[i].Body)
	}
	p.Threads = padded(p.Threads, api.Thread{Name: "spare"})
	before := stmtsWritten(p.Threads[0].Body) + stmtsWritten(p.Threads[1].Body)
	u := made(t, p)
	want := unitWritten(u)
	wipe(u)
	if got := unitWritten(made(t, p)); got != want {
		t.Errorf("%s, want %s", got, want)
	}
	if stmtsWritten(p.Threads[0].Body)+stmtsWritten(p.Threads[1].Body) != before {
		t.Error(p.Threads)
	}
	if !slices.Equal(spare(p.Threads[0].Regs), []string{"a", "b", "spare"}) || !slices.Equal(spare(p.Threads[1].Regs), []string{"c", "spare"}) {
		t.Error(p.Threads)
	}
	if x := spare(p.Locs); len(x) != 3 || x[0].Name != "x" || x[0].N != 1 || x[1].Name != "y" || x[2].Name != "spare" || spare(p.Threads)[2].Name != "spare" {
		t.Error(x)
	}
}

// wipe overwrites all that a unit is, and what is in its spare capacity.
func wipe(u api.Unit) {
	for _, l := range u.Code {
		for _, x := range spare(l) {
			clear(spare(x.E))
			clear(spare(x.F))
		}
		clear(spare(l))
	}
	clear(spare(u.Code))
	clear(spare(u.Init))
	clear(spare(u.Regs))
}

// No two lists of a unit share memory: to overwrite one leaves the others.
func TestMakeShares(t *testing.T) {
	p := parsed(t, "mod 4; loc x = 1; thread t { reg a; store x = a; store x = a; } thread u { reg a; store x = a; store x = a; }")
	u := made(t, p)
	clear(spare(u.Init))
	clear(spare(u.Regs))
	clear(spare(u.Code[0][0].E))
	clear(spare(u.Code[1]))
	if got := written(u.Code[0]); got != "store l0 = op0; store l0 = r0; done" {
		t.Error(got)
	}
}
