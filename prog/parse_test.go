package prog_test

import (
	"slices"
	"strings"
	"testing"

	"spinnaker/api"
	"spinnaker/prog"
)

// same tells whether programs are the same, where an empty list is as good as none.
func same(p, q api.Prog) bool {
	return p.Mod == q.Mod && slices.Equal(p.Locs, q.Locs) &&
		slices.EqualFunc(p.Threads, q.Threads, sameThread) &&
		slices.EqualFunc(p.Claims, q.Claims, sameClaim)
}

func sameThread(t, u api.Thread) bool {
	return t.Name == u.Name && slices.Equal(t.Regs, u.Regs) && slices.EqualFunc(t.Body, u.Body, sameStmt) && t.At == u.At
}

func sameStmt(s, u api.Stmt) bool {
	return s.Kind == u.Kind && s.Reg == u.Reg && s.Loc == u.Loc && slices.Equal(s.E, u.E) && slices.Equal(s.F, u.F) &&
		s.Ne == u.Ne && s.Body == u.Body && s.Else == u.Else && s.At == u.At
}

func sameClaim(c, d api.Claim) bool {
	return c.Kind == d.Kind && slices.Equal(c.E, d.E) && c.At == d.At
}

// parsed is the program that a text is.
func parsed(t *testing.T, s string) api.Prog {
	t.Helper()
	p, e, at := prog.Parse(s)
	if e != api.OK || at != 0 {
		t.Fatalf("Parse(%.100q) = %v, %d, %d", s, p, e, at)
	}
	if !prog.Right(p) {
		t.Errorf("Parse(%.100q) = %v is not valid", s, p)
	}
	return p
}

// parses fails the test unless a text is this program.
func parses(t *testing.T, s string, want api.Prog) {
	t.Helper()
	if p := parsed(t, s); !same(p, want) {
		t.Errorf("Parse(%.100q) = %v, want %v", s, p, want)
	}
}

// fails fails the test unless a text has this error, and the zero program.
func fails(t *testing.T, s string, e api.Errno, at int) {
	t.Helper()
	p, gotE, gotAt := prog.Parse(s)
	if !same(p, api.Prog{}) || gotE != e || gotAt != at {
		t.Errorf("Parse(%.100q) = %v, %d, %d, want %d, %d", s, p, gotE, gotAt, e, at)
	}
}

func num(n, at int) api.Node              { return api.Node{Op: api.Num, N: n, At: at} }
func reg(name string, at int) api.Node    { return api.Node{Op: api.Reg, Name: name, At: at} }
func loc(name string, at int) api.Node    { return api.Node{Op: api.Loc, Name: name, At: at} }
func op(kind, at int) api.Node            { return api.Node{Op: kind, At: at} }
func of(in, name string, at int) api.Node { return api.Node{Op: api.Of, In: in, Name: name, At: at} }

func nodes(l ...api.Node) []api.Node { return l }

// P4.1: what is parsed.

func TestParseExample(t *testing.T) {
	parses(t, "mod 2; loc x = 0; thread t { reg a; load a = x; } forall t.a == 0 && x == 0;", api.Prog{
		Mod:  2,
		Locs: []api.Var{{Name: "x", At: 7}},
		Threads: []api.Thread{{
			Name: "t", Regs: []string{"a"}, At: 18,
			Body: []api.Stmt{{Kind: api.Load, Reg: "a", Loc: "x", At: 36}},
		}},
		Claims: []api.Claim{{Kind: api.Forall, At: 50, E: nodes(
			op(api.And, 66), op(api.Eq, 61), of("t", "a", 57), num(0, 64), op(api.Eq, 71), loc("x", 69), num(0, 74))}},
	})
}

func TestParseMod(t *testing.T) {
	parses(t, "mod 2;", api.Prog{Mod: 2})
	parses(t, "mod 0;", api.Prog{})
	parses(t, "mod 9999;", api.Prog{Mod: 9999})
	parses(t, "\tmod\r\n 00016 ; # the end", api.Prog{Mod: 16})
}

func TestParseLocations(t *testing.T) {
	parses(t, "mod 2;loc x=0;", api.Prog{Mod: 2, Locs: []api.Var{{Name: "x", At: 6}}})
	parses(t, "mod 2; loc x = 0; loc Loc = 9999;loc _9=007;", api.Prog{Mod: 2, Locs: []api.Var{
		{Name: "x", At: 7}, {Name: "Loc", N: 9999, At: 18}, {Name: "_9", N: 7, At: 33},
	}})
	// What is declared twice, or too often, is no matter of the form.
	parses(t, "mod 2;"+strings.Repeat("loc x = 5;", 7), api.Prog{Mod: 2, Locs: []api.Var{
		{Name: "x", N: 5, At: 6}, {Name: "x", N: 5, At: 16}, {Name: "x", N: 5, At: 26}, {Name: "x", N: 5, At: 36},
		{Name: "x", N: 5, At: 46}, {Name: "x", N: 5, At: 56}, {Name: "x", N: 5, At: 66},
	}})
}

func TestParseThreads(t *testing.T) {
	parses(t, "mod 2; thread t { }", api.Prog{Mod: 2, Threads: []api.Thread{{Name: "t", At: 7}}})
	parses(t, "mod 2; thread t { reg a; }", api.Prog{Mod: 2, Threads: []api.Thread{{Name: "t", Regs: []string{"a"}, At: 7}}})
	parses(t, "mod 2; thread t { skip; }", api.Prog{Mod: 2, Threads: []api.Thread{
		{Name: "t", Body: []api.Stmt{{Kind: api.Skip, At: 18}}, At: 7},
	}})
	parses(t, "mod 2;thread t{reg a,b , c_1;set a=b+1;fence;}thread u{}thread t{reg t,t;}", api.Prog{Mod: 2, Threads: []api.Thread{
		{Name: "t", Regs: []string{"a", "b", "c_1"}, At: 6, Body: []api.Stmt{
			{Kind: api.Set, Reg: "a", E: nodes(op(api.Add, 36), reg("b", 35), num(1, 37)), At: 29},
			{Kind: api.Fence, At: 39},
		}},
		{Name: "u", At: 46},
		{Name: "t", Regs: []string{"t", "t"}, At: 56},
	}})
	// A block's } does not close the thread.
	parses(t, "mod 2; thread t { loop { if a { break; } else { } } } thread u { }", api.Prog{Mod: 2, Threads: []api.Thread{
		{Name: "t", At: 7, Body: []api.Stmt{
			{Kind: api.Loop, Body: 2, At: 18},
			{Kind: api.If, E: nodes(reg("a", 28)), Body: 1, At: 25},
			{Kind: api.Break, At: 32},
		}},
		{Name: "u", At: 54},
	}})
}

func TestParseClaims(t *testing.T) {
	parses(t, "mod 2; forall x;", api.Prog{Mod: 2, Claims: []api.Claim{{Kind: api.Forall, E: nodes(loc("x", 14)), At: 7}}})
	parses(t, "mod 2; exists t.a;", api.Prog{Mod: 2, Claims: []api.Claim{{Kind: api.Exists, E: nodes(of("t", "a", 14)), At: 7}}})
	parses(t, "mod 2; always 1;", api.Prog{Mod: 2, Claims: []api.Claim{{Kind: api.Always, E: nodes(num(1, 14)), At: 7}}})
	// The kinds may come in any order, and more than once.
	parses(t, "mod 2;always!(x)<x ;exists 0;forall y.y*y;exists (1);", api.Prog{Mod: 2, Claims: []api.Claim{
		{Kind: api.Always, E: nodes(op(api.Lt, 16), op(api.Not, 12), loc("x", 14), loc("x", 17)), At: 6},
		{Kind: api.Exists, E: nodes(num(0, 27)), At: 20},
		{Kind: api.Forall, E: nodes(op(api.Mul, 39), of("y", "y", 36), loc("y", 40)), At: 29},
		{Kind: api.Exists, E: nodes(num(1, 50)), At: 42},
	}})
}

// P4.1: a text that ends too early, and tokens that cannot occur.

func TestParseScanErrors(t *testing.T) {
	fails(t, "mod 2; $", api.ErrChar, 7)
	fails(t, "mod 2; thread t { set a = 10000; }", api.ErrNumber, 26)
	fails(t, "mod 2; loc abcdefghijklmnopq = 0;", api.ErrBig, 11)
	fails(t, "mod 10000;", api.ErrNumber, 4)
	fails(t, "mod 2; loc x = 10000;", api.ErrNumber, 15)
	fails(t, "mod 2;"+strings.Repeat(" ", api.MaxText), api.ErrBig, api.MaxText)
	parses(t, "mod 2;"+strings.Repeat(" ", api.MaxText-6), api.Prog{Mod: 2})
	// They come before all others.
	fails(t, "loc mod mod } x \xff", api.ErrChar, 16)
	fails(t, "mod 2; thread t { set a = t.b; 10000", api.ErrNumber, 31)
	fails(t, "loc $"+strings.Repeat(" ", api.MaxText), api.ErrBig, api.MaxText)
}

// pieces are parts of a program that can end there, in their order.
var pieces = []string{
	"mod 2 ;",
	"loc x = 0 ;",
	"loc y = 1 ;",
	"thread t { }",
	"thread t { reg a ; }",
	"thread t { skip ; }",
	"thread t { reg a , b , c ; cas a = x , b + 1 , ! c ; if a { fence ; } else { loop { break ; } } while a { } await x != 0 ; }",
	"forall x == 0 ;",
	"exists ! ( t . a < 2 ) ;",
	"always t . a + t . b <= y ;",
}

// Wherever the tokens end within a piece, the next token is missing.
func TestParseMissing(t *testing.T) {
	fails(t, "", api.ErrEnd, 0)
	fails(t, "  # no program\n\t", api.ErrEnd, 0)
	fails(t, "mod", api.ErrEnd, 3)
	fails(t, " mod 0012 # and no more", api.ErrEnd, 9)
	before := ""
	for _, s := range pieces {
		for i := range len(s) {
			if s[i] == ' ' {
				fails(t, before+s[:i], api.ErrEnd, len(before)+i)
				fails(t, before+s[:i]+" # "+s, api.ErrEnd, len(before)+i)
			}
		}
		before += s + "\n"
		parsed(t, before)
	}
}

// every is a text of each token but names and numbers.
var every = []string{
	";", ",", "{", "}", "(", ")", ".", "=", "+", "-", "*", "!", "<", "==", "!=", "<=", "&&", "||",
	"mod", "loc", "thread", "reg", "skip", "set", "load", "store", "cas", "fadd", "xchg", "fence", "await",
	"if", "else", "while", "loop", "break", "forall", "exists", "always",
}

// misplaced fails the test unless, after a text, each token is refused but those that can occur.
func misplaced(t *testing.T, before string, can ...string) {
	t.Helper()
	for _, s := range slices.Concat(every, []string{"a", "7"}) {
		_, e, at := prog.Parse(before + " " + s)
		refused := e == api.ErrToken && at == len(before)+1
		if refused == slices.Contains(can, s) {
			t.Errorf("Parse(%q): %d, %d", before+" "+s, e, at)
		}
		if !slices.Contains(can, s) {
			fails(t, before+" "+s+" ; }", api.ErrToken, len(before)+1)
		}
	}
}

func TestParseWrongTokens(t *testing.T) {
	kinds := []string{"forall", "exists", "always"}
	statements := []string{"skip", "set", "load", "store", "cas", "fadd", "xchg", "fence", "await", "if", "while", "loop", "break", "}"}
	signs := []string{".", "+", "-", "*", "<", "==", "!=", "<=", "&&", "||"}
	misplaced(t, "", "mod")
	misplaced(t, "mod", "7")
	misplaced(t, "mod 2", ";")
	misplaced(t, "mod 2;", append(kinds, "loc", "thread")...)
	misplaced(t, "mod 2; loc", "a")
	misplaced(t, "mod 2; loc x", "=")
	misplaced(t, "mod 2; loc x =", "7")
	misplaced(t, "mod 2; loc x = 0", ";")
	misplaced(t, "mod 2; loc x = 0;", append(kinds, "loc", "thread")...)
	misplaced(t, "mod 2; thread", "a")
	misplaced(t, "mod 2; thread t", "{")
	misplaced(t, "mod 2; thread t {", append(statements, "reg")...)
	misplaced(t, "mod 2; thread t { reg", "a")
	misplaced(t, "mod 2; thread t { reg a", ",", ";")
	misplaced(t, "mod 2; thread t { reg a,", "a")
	misplaced(t, "mod 2; thread t { reg a, b", ",", ";")
	misplaced(t, "mod 2; thread t { reg a;", statements...)
	misplaced(t, "mod 2; thread t { skip;", statements...)
	misplaced(t, "mod 2; thread t { loop {", statements...)
	misplaced(t, "mod 2; thread t { loop { }", statements...)
	misplaced(t, "mod 2; thread t { }", append(kinds, "thread")...)
	misplaced(t, "mod 2; thread t { } thread u { }", append(kinds, "thread")...)
	for _, s := range kinds {
		misplaced(t, "mod 2; "+s, "a", "7", "(", "!")
		misplaced(t, "mod 2; thread t { } "+s+" x", append(signs, ";")...)
		misplaced(t, "mod 2; "+s+" t.a", append(signs[1:], ";")...)
		misplaced(t, "mod 2; "+s+" x;", kinds...)
	}
}

func TestParseNames(t *testing.T) {
	for _, s := range every {
		fails(t, "mod 2; loc "+s+" = 0;", api.ErrToken, 11)
		fails(t, "mod 2; thread "+s+" { }", api.ErrToken, 14)
		fails(t, "mod 2; thread t { reg "+s+"; }", api.ErrToken, 22)
		fails(t, "mod 2; thread t { reg a, "+s+"; }", api.ErrToken, 25)
	}
	fails(t, "mod 2; loc 7x = 0;", api.ErrToken, 11)
	fails(t, "mod 2; loc t.x = 0;", api.ErrToken, 12)
	fails(t, "mod x;", api.ErrToken, 4)
	fails(t, "mod -1;", api.ErrToken, 4)
	fails(t, "mod 1 + 1;", api.ErrToken, 6)
	fails(t, "mod 2; loc x = y;", api.ErrToken, 15)
	fails(t, "Mod 2;", api.ErrToken, 0)
}

// The parts in another order, and what is left when they have ended.
func TestParseOrder(t *testing.T) {
	fails(t, "loc x = 0;", api.ErrToken, 0)
	fails(t, "loc x = 0; mod 2;", api.ErrToken, 0)
	fails(t, "mod 2; mod 2;", api.ErrToken, 7)
	fails(t, "mod 2; loc x = 0; mod 2;", api.ErrToken, 18)
	fails(t, "mod 2; thread t { } loc x = 0;", api.ErrToken, 20)
	fails(t, "mod 2; forall x; loc x = 0;", api.ErrToken, 17)
	fails(t, "mod 2; forall x; thread t { }", api.ErrToken, 17)
	fails(t, "mod 2; forall x; mod 2;", api.ErrToken, 17)
	fails(t, "mod 2; skip;", api.ErrToken, 7)
	fails(t, "mod 2; reg a;", api.ErrToken, 7)
	fails(t, "mod 2; thread t { skip; reg a; }", api.ErrToken, 24)
	fails(t, "mod 2; thread t { reg a; reg b; }", api.ErrToken, 25)
	fails(t, "mod 2; thread t { forall x; }", api.ErrToken, 18)
	fails(t, "mod 2; thread t { loop { reg a; } }", api.ErrToken, 25)
	// A } that closes nothing.
	fails(t, "}", api.ErrToken, 0)
	fails(t, "mod 2; }", api.ErrToken, 7)
	fails(t, "mod 2; loc x = 0; }", api.ErrToken, 18)
	fails(t, "mod 2; thread t { } }", api.ErrToken, 20)
	fails(t, "mod 2; thread t { loop { } } } thread u { }", api.ErrToken, 29)
	fails(t, "mod 2; thread t { skip; } } forall x;", api.ErrToken, 26)
	fails(t, "mod 2; forall x; }", api.ErrToken, 17)
	fails(t, "mod 2; forall x };", api.ErrToken, 16)
	// A thread that is not closed.
	fails(t, "mod 2; thread t { skip; thread u { }", api.ErrToken, 24)
	fails(t, "mod 2; thread t { loop { } forall x;", api.ErrToken, 27)
	fails(t, "mod 2; thread t { loop { }", api.ErrEnd, 26)
}

// P4.1: the errors of the layers before.

// deep is an expression of depth 31, wide one of 199 nodes and depth 19.
var (
	deep = strings.Repeat("a+", 31) + "a"
	wide = strings.Repeat("(a+b+c+d+e+f+g+h+i+j)*", 9) + "(a+b+c+d+e+f+g+h+i+j)"
)

func TestParseBodyErrors(t *testing.T) {
	const before = "mod 2; thread t { "
	const at = len(before)
	in, out := strings.Repeat("loop{", 30), strings.Repeat("}", 30)
	parsed(t, before+in+out+"}")
	fails(t, before+in+"loop{", api.ErrDeep, at+154)
	fails(t, before+in+"if a {}"+out+"}", api.ErrDeep, at+155)
	parsed(t, before+strings.Repeat("skip;", 200)+"}")
	fails(t, before+strings.Repeat("skip;", 201)+"}", api.ErrBig, at)
	fails(t, before+strings.Repeat("skip;", 201), api.ErrBig, at)
	fails(t, before+"reg a;"+strings.Repeat("skip;", 201)+"} jump", api.ErrBig, at+6)
	fails(t, before+strings.Repeat("skip;", 201)+"jump;", api.ErrToken, at+1005)
	fails(t, before+"set a = t.b; }", api.ErrToken, at+8)
	fails(t, before+"set a = "+deep+"; }", api.ErrDeep, at+8)
	parsed(t, before+"set a = !("+wide+"); }")
	fails(t, before+"set a = !!("+wide+"); }", api.ErrBig, at+8)
	fails(t, before+"} thread u { set a = ; }", api.ErrToken, at+21)
	// Each thread has limits of its own.
	parsed(t, "mod 2;"+strings.Repeat("thread t {"+strings.Repeat("skip;", 200)+"}", 5))
}

func TestParseClaimErrors(t *testing.T) {
	for _, s := range []string{"forall ", "exists ", "always "} {
		before := "mod 2; thread t { } " + s
		at := len(before)
		parsed(t, before+deep[2:]+";")
		fails(t, before+deep+";", api.ErrDeep, at)
		fails(t, before+deep, api.ErrDeep, at)
		fails(t, before+deep+"}", api.ErrDeep, at)
		fails(t, before+deep+"+;", api.ErrToken, at+len(deep)+1)
		fails(t, before+strings.Repeat("!", 31)+"x;", api.ErrDeep, at+30)
		parsed(t, before+strings.Repeat("!", 30)+"x;")
		parsed(t, before+"!("+wide+");")
		fails(t, before+"!!("+wide+");", api.ErrBig, at)
		fails(t, before+"x < y < z;", api.ErrToken, at+6)
		fails(t, before+"t.7;", api.ErrToken, at+2)
		fails(t, before+"t.a.b;", api.ErrToken, at+3)
		fails(t, before+"7.a;", api.ErrToken, at+1)
		fails(t, before+"x = 0;", api.ErrToken, at+2)
		fails(t, before+"(x;", api.ErrToken, at+2)
	}
	parsed(t, "mod 2;"+strings.Repeat("forall x;", 20))
}

func TestParseFirstError(t *testing.T) {
	many := strings.Repeat("skip;", 201)
	fails(t, "mod 2; loc x = y; thread t {"+many+"}", api.ErrToken, 15)
	fails(t, "mod 2; thread t {"+many+"} forall "+deep+"; }", api.ErrBig, 17)
	fails(t, "mod 2; forall "+deep+"; exists ;", api.ErrDeep, 14)
	fails(t, "mod 2; thread t { set a = t.b; } forall", api.ErrToken, 26)
	fails(t, "mod; thread t {", api.ErrToken, 3)
	fails(t, "mod 2; thread t { reg a, ; jump; }", api.ErrToken, 25)
	fails(t, "mod 2; thread t reg a; }", api.ErrToken, 16)
	fails(t, "mod 2; forall ; exists (", api.ErrToken, 14)
}

// R4: what a call returns is its own.
func TestParseOwnResults(t *testing.T) {
	s := strings.Join(pieces, " ")
	p, q := parsed(t, s), parsed(t, s)
	wipe(q)
	if !same(p, parsed(t, s)) {
		t.Error(p)
	}
	apart(t, p)
}
