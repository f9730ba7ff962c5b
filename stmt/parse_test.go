package stmt_test

import (
	"math"
	"reflect"
	"slices"
	"strings"
	"testing"

	"spinnaker/api"
	"spinnaker/expr"
	"spinnaker/scan"
	"spinnaker/stmt"
)

func tokens(t *testing.T, s string) []api.Token {
	t.Helper()
	l, e, at := scan.Scan(s)
	if e != api.OK {
		t.Fatalf("Scan(%.60q) = %d, %d", s, e, at)
	}
	return l
}

// parsed is the statements that a text is, all of it.
func parsed(t *testing.T, s string) []api.Stmt {
	t.Helper()
	l := tokens(t, s)
	x, to, e, at := stmt.Parse(l, 0)
	if to != len(l) || e != api.OK || at != 0 {
		t.Fatalf("Parse(%.60q) = %v, %d, %d, %d, want all %d tokens", s, x, to, e, at, len(l))
	}
	return x
}

// same tells whether statements are the same, where an empty list is as good as none.
func same(x, y []api.Stmt) bool {
	return slices.EqualFunc(x, y, func(a, b api.Stmt) bool {
		e := slices.Equal(a.E, b.E) && slices.Equal(a.F, b.F)
		a.E, a.F, b.E, b.F = nil, nil, nil, nil
		return e && reflect.DeepEqual(a, b)
	})
}

// parses fails the test unless a text is these statements, all of it.
func parses(t *testing.T, s string, want ...api.Stmt) {
	t.Helper()
	if x := parsed(t, s); !same(x, want) {
		t.Errorf("Parse(%.60q) = %v, want %v", s, x, want)
	}
}

// refuses fails the test unless these tokens have this error from token i on, and no statements.
func refuses(t *testing.T, l []api.Token, i int, e api.Errno, at int) {
	t.Helper()
	x, to, gotE, gotAt := stmt.Parse(l, i)
	if len(x) != 0 || to != 0 || gotE != e || gotAt != at {
		t.Errorf("Parse(%.100q, %d) = %v, %d, %d, %d, want %d, %d", scan.Show(l), i, x, to, gotE, gotAt, e, at)
	}
}

func fails(t *testing.T, s string, e api.Errno, at int) {
	t.Helper()
	refuses(t, tokens(t, s), 0, e, at)
}

func num(n, at int) api.Node           { return api.Node{Op: api.Num, N: n, At: at} }
func reg(name string, at int) api.Node { return api.Node{Op: api.Reg, Name: name, At: at} }
func op(kind, at int) api.Node         { return api.Node{Op: kind, At: at} }

func nodes(l ...api.Node) []api.Node { return l }

// P3.1: what is parsed.

func TestParseKinds(t *testing.T) {
	parses(t, "skip;", api.Stmt{Kind: api.Skip})
	parses(t, " fence ;", api.Stmt{Kind: api.Fence, At: 1})
	parses(t, "break;", api.Stmt{Kind: api.Break})
	parses(t, "set a = 7;", api.Stmt{Kind: api.Set, Reg: "a", E: nodes(num(7, 8))})
	parses(t, "\nset Mod = a+!b;", api.Stmt{Kind: api.Set, Reg: "Mod", E: nodes(op(api.Add, 12), reg("a", 11), op(api.Not, 13), reg("b", 14)), At: 1})
	parses(t, "load a=x;", api.Stmt{Kind: api.Load, Reg: "a", Loc: "x"})
	parses(t, "store x=a;", api.Stmt{Kind: api.Store, Loc: "x", E: nodes(reg("a", 8))})
	parses(t, "store abcdefghijklmnop = (9999);", api.Stmt{Kind: api.Store, Loc: "abcdefghijklmnop", E: nodes(num(9999, 26))})
	parses(t, "cas a=x,0,b;", api.Stmt{Kind: api.Cas, Reg: "a", Loc: "x", E: nodes(num(0, 8)), F: nodes(reg("b", 10))})
	parses(t, "cas a = x, b<1, c*2;", api.Stmt{Kind: api.Cas, Reg: "a", Loc: "x", E: nodes(op(api.Lt, 12), reg("b", 11), num(1, 13)), F: nodes(op(api.Mul, 17), reg("c", 16), num(2, 18))})
	parses(t, "fadd a=x,1;", api.Stmt{Kind: api.Fadd, Reg: "a", Loc: "x", E: nodes(num(1, 9))})
	parses(t, "xchg a=x,b;", api.Stmt{Kind: api.Xchg, Reg: "a", Loc: "x", E: nodes(reg("b", 9))})
	parses(t, "await x==1;", api.Stmt{Kind: api.Await, Loc: "x", E: nodes(num(1, 9))})
	parses(t, "await x!=a;", api.Stmt{Kind: api.Await, Loc: "x", E: nodes(reg("a", 9)), Ne: true})
	parses(t, "await x == a == b;", api.Stmt{Kind: api.Await, Loc: "x", E: nodes(op(api.Eq, 13), reg("a", 11), reg("b", 16))})
	parses(t, "await x != !a;", api.Stmt{Kind: api.Await, Loc: "x", E: nodes(op(api.Not, 11), reg("a", 12)), Ne: true})
}

func TestParseBlocks(t *testing.T) {
	a := nodes(reg("a", 3))
	parses(t, "loop{}", api.Stmt{Kind: api.Loop})
	parses(t, "loop { skip; }", api.Stmt{Kind: api.Loop, Body: 1}, api.Stmt{Kind: api.Skip, At: 7})
	parses(t, "while a { }", api.Stmt{Kind: api.While, E: nodes(reg("a", 6))})
	parses(t, "if a { }", api.Stmt{Kind: api.If, E: a})
	parses(t, "if a { } else { }", api.Stmt{Kind: api.If, E: a})
	parses(t, "if a { skip; } else { }", api.Stmt{Kind: api.If, E: a, Body: 1}, api.Stmt{Kind: api.Skip, At: 7})
	parses(t, "if a { } else { fence; break; }", api.Stmt{Kind: api.If, E: a, Else: 2}, api.Stmt{Kind: api.Fence, At: 16}, api.Stmt{Kind: api.Break, At: 23})
	parses(t, "if a { skip; fence; } else { break; } skip;",
		api.Stmt{Kind: api.If, E: a, Body: 2, Else: 1},
		api.Stmt{Kind: api.Skip, At: 7}, api.Stmt{Kind: api.Fence, At: 13},
		api.Stmt{Kind: api.Break, At: 29}, api.Stmt{Kind: api.Skip, At: 38})
	// All nested levels are counted, and an else belongs to the if whose } stands before it.
	parses(t, "if a {if a {skip;} else {loop {}}} else {loop {while a {}} skip;} break;",
		api.Stmt{Kind: api.If, E: a, Body: 3, Else: 3},
		api.Stmt{Kind: api.If, E: nodes(reg("a", 9)), Body: 1, Else: 1, At: 6},
		api.Stmt{Kind: api.Skip, At: 12},
		api.Stmt{Kind: api.Loop, At: 25},
		api.Stmt{Kind: api.Loop, Body: 1, At: 41},
		api.Stmt{Kind: api.While, E: nodes(reg("a", 53)), At: 47},
		api.Stmt{Kind: api.Skip, At: 59},
		api.Stmt{Kind: api.Break, At: 66})
	parses(t, "if a {if a {}} else {skip;}", api.Stmt{Kind: api.If, E: a, Body: 1, Else: 1}, api.Stmt{Kind: api.If, E: nodes(reg("a", 9)), At: 6}, api.Stmt{Kind: api.Skip, At: 21})
	parses(t, "if a {if a {} else {skip;}}", api.Stmt{Kind: api.If, E: a, Body: 2}, api.Stmt{Kind: api.If, E: nodes(reg("a", 9)), Else: 1, At: 6}, api.Stmt{Kind: api.Skip, At: 20})
}

func TestParseExample(t *testing.T) {
	parses(t, "while a != 0 { load a = x; }",
		api.Stmt{Kind: api.While, E: nodes(op(api.Ne, 8), reg("a", 6), num(0, 11)), Body: 1},
		api.Stmt{Kind: api.Load, Reg: "a", Loc: "x", At: 15})
}

// ends fails the test unless these many statements stand from token i on, up to token to.
func ends(t *testing.T, s string, i, to, count int) {
	t.Helper()
	x, gotTo, e, at := stmt.Parse(tokens(t, s), i)
	if e != api.OK || at != 0 || gotTo != to || len(x) != count || !stmt.Right(x) {
		t.Errorf("Parse(%q, %d) = %v, %d, %d, %d, want %d statements, %d", s, i, x, gotTo, e, at, count, to)
	}
}

func TestParseEnd(t *testing.T) {
	ends(t, "", 0, 0, 0)
	ends(t, "}", 0, 0, 0)
	ends(t, "}", 1, 1, 0)
	ends(t, "} }", 1, 1, 0)
	ends(t, "} mod", 0, 0, 0)
	ends(t, "skip; } }", 0, 2, 1)
	ends(t, "skip; } skip; nonsense", 0, 2, 1)
	ends(t, "skip; } skip;", 3, 5, 1)
	ends(t, "skip; skip;", 2, 4, 1)
	ends(t, "skip; skip;", 4, 4, 0)
	ends(t, "loop { } } else { }", 0, 3, 1)
	ends(t, "loop { skip; } }", 2, 4, 1)
	ends(t, "if a { } } else { }", 0, 4, 1)
	ends(t, "if a { } else { } }", 0, 7, 1)
	ends(t, "if a { loop { } skip; } }", 0, 9, 3)
	ends(t, "thread t { set a = 1; } thread", 3, 8, 1)
	ends(t, "skip )", 2, 2, 0)
	for _, l := range [][]api.Token{nil, {}} {
		if x, to, e, at := stmt.Parse(l, 0); len(x) != 0 || to != 0 || e != api.OK || at != 0 {
			t.Error(x, to, e, at)
		}
	}
}

// P3.1: the errors.

func TestParseIndex(t *testing.T) {
	l := tokens(t, "skip; skip")
	for _, i := range []int{-1, -2, math.MinInt, 4, 5, 1000, math.MaxInt} {
		refuses(t, l, i, api.ErrArg, 0)
		refuses(t, nil, i, api.ErrArg, 0)
	}
	refuses(t, []api.Token{}, 1, api.ErrArg, 0)
	refuses(t, tokens(t, ") )"), -1, api.ErrArg, 0)
	refuses(t, tokens(t, ") )"), 3, api.ErrArg, 0)
	refuses(t, l, 1, api.ErrToken, 4)
	refuses(t, l, 2, api.ErrEnd, 10)
	ends(t, "skip; skip", 3, 3, 0)
}

// each is one text of each kind of statement, and of each shape of If.
var each = []string{
	"skip ;", "fence ;", "break ;",
	"set a = b ;", "load a = x ;", "store x = b ;",
	"cas a = x , b , c ;", "fadd a = x , b ;", "xchg a = x , b ;",
	"await x == b ;", "await x != b ;",
	"if a { skip ; }", "if a { skip ; } else { fence ; }", "while a { skip ; }", "loop { skip ; }",
}

// Wherever the tokens end within a statement, the next token is missing.
func TestParseMissing(t *testing.T) {
	for _, s := range each {
		for i := range len(s) {
			if s[i] != ' ' {
				continue
			}
			if before := s[:i]; before == "if a { skip ; }" {
				parsed(t, before)
			} else {
				fails(t, before, api.ErrEnd, i)
				fails(t, "skip ; "+before+" # "+s, api.ErrEnd, 7+i)
				fails(t, "loop { "+before+"\n", api.ErrEnd, 7+i)
			}
		}
		parsed(t, s)
		fails(t, "loop { "+s, api.ErrEnd, 7+len(s))
		fails(t, "if a { } else { "+s+"  ", api.ErrEnd, 16+len(s))
	}
	fails(t, "set a = 0012", api.ErrEnd, 12)
	fails(t, "set a = (b", api.ErrEnd, 10)
	fails(t, "set a = b +", api.ErrEnd, 11)
	fails(t, "if !", api.ErrEnd, 4)
	fails(t, "while a <", api.ErrEnd, 9)
	fails(t, "cas a = x, b, c.", api.ErrEnd, 16)
	refuses(t, tokens(t, "} } loop {"), 2, api.ErrEnd, 10)
}

// every is a text of each token but names and numbers.
var every = []string{
	";", ",", "{", "}", "(", ")", ".", "=", "+", "-", "*", "!", "<", "==", "!=", "<=", "&&", "||",
	"mod", "loc", "thread", "reg", "skip", "set", "load", "store", "cas", "fadd", "xchg", "fence", "await",
	"if", "else", "while", "loop", "break", "forall", "exists", "always",
}

// misplaced fails the test unless, after a text, each token is refused but those that can occur.
func misplaced(t *testing.T, before string, can ...string) {
	t.Helper()
	for _, s := range slices.Concat(every, []string{"a", "7"}) {
		if !slices.Contains(can, s) {
			fails(t, before+" "+s, api.ErrToken, len(before)+1)
			fails(t, before+" "+s+" ; }", api.ErrToken, len(before)+1)
		}
	}
}

func TestParseWrongTokens(t *testing.T) {
	begins := []string{"skip", "set", "load", "store", "cas", "fadd", "xchg", "fence", "await", "if", "while", "loop", "break", "}"}
	for _, s := range []string{"", "skip ;", "loop {", "loop { skip ;", "loop { }", "while a { }", "if a { } else {", "if a { } else { }"} {
		misplaced(t, s, begins...)
	}
	misplaced(t, "if a { }", append(begins, "else")...)
	misplaced(t, "if a { skip ; }", append(begins, "else")...)
	for _, s := range []string{"skip", "fence", "break", "load a = x"} {
		misplaced(t, s, ";")
	}
	for _, s := range []string{"set", "load", "store", "cas", "fadd", "xchg", "await", "load a =", "cas a =", "fadd a =", "xchg a ="} {
		misplaced(t, s, "a")
	}
	for _, s := range []string{"set a", "load a", "store x", "cas a", "fadd a", "xchg a"} {
		misplaced(t, s, "=")
	}
	misplaced(t, "await x", "==", "!=")
	for _, s := range []string{"loop", "if a { } else"} {
		misplaced(t, s, "{")
	}
	for _, s := range []string{"cas a = x", "fadd a = x", "xchg a = x"} {
		misplaced(t, s, ",")
	}
	for _, s := range []string{"set a =", "store x =", "cas a = x ,", "cas a = x , b ,", "fadd a = x ,", "xchg a = x ,", "await x ==", "await x !=", "if", "while"} {
		misplaced(t, s, "a", "7", "(", "!")
	}
	signs := []string{".", "+", "-", "*", "<", "==", "!=", "<=", "&&", "||"}
	for _, s := range []string{"set a = b", "store x = b", "cas a = x , b , c", "fadd a = x , b", "xchg a = x , b", "await x == b", "await x != b"} {
		misplaced(t, s, append(signs, ";")...)
	}
	misplaced(t, "cas a = x , b", append(signs, ",")...)
	misplaced(t, "if a", append(signs, "{")...)
	misplaced(t, "while a", append(signs, "{")...)
	fails(t, "set a = b < c < d;", api.ErrToken, 14)
	fails(t, "await x == a == b == c;", api.ErrToken, 18)
	fails(t, "set a = 7.b;", api.ErrToken, 9)
	fails(t, "set t.a = 1;", api.ErrToken, 5)
	fails(t, "load a = t.a;", api.ErrToken, 10)
	fails(t, "load a = x + 1;", api.ErrToken, 11)
	fails(t, "if a { } else if b { }", api.ErrToken, 14)
	fails(t, "if a { } else { } else { }", api.ErrToken, 18)
	fails(t, "Skip;", api.ErrToken, 0)
	fails(t, "skips;", api.ErrToken, 0)
	refuses(t, tokens(t, "} } jump ;"), 2, api.ErrToken, 4)
}

// An expression with an Of is refused at its first token, but only when all of it was parsed.
func TestParseOf(t *testing.T) {
	for _, s := range []string{"set a =", "store x =", "cas a = x ,", "cas a = x , b ,", "fadd a = x ,", "xchg a = x ,", "await x ==", "await x !=", "if", "while"} {
		at := len(s) + 1
		for _, e := range []string{"t.a", "(t.a)", "!t.a", "b + t.a", "b + (c * t.a)", "t.a < t.b"} {
			fails(t, s+" "+e+" ;", api.ErrToken, at)
			fails(t, s+" "+e, api.ErrToken, at)
			fails(t, s+" "+e+" jump", api.ErrToken, at)
			fails(t, s+" "+e+" {", api.ErrToken, at)
			fails(t, s+" "+e+" + ;", api.ErrToken, at+len(e)+3)
			fails(t, s+" "+e+" +", api.ErrEnd, at+len(e)+2)
			fails(t, s+" ("+e+" ;", api.ErrToken, at+len(e)+2)
			fails(t, s+" "+e+" + t.7 ;", api.ErrToken, at+len(e)+5)
		}
	}
	fails(t, "set a = t.b"+strings.Repeat("+a", 31)+";", api.ErrDeep, 8)
	fails(t, "set a = "+wide+"*t.b;", api.ErrBig, 8)
	fails(t, strings.Repeat("loop{", 30)+"while t.a {", api.ErrToken, 156)
}

// wide is an expression of 199 nodes.
var wide = strings.Repeat("(a+b+c+d+e+f+g+h+i+j)*", 9) + "(a+b+c+d+e+f+g+h+i+j)"

func TestParseExpressionErrors(t *testing.T) {
	deep, open := strings.Repeat("a+", 31)+"a", strings.Repeat("(", 31)
	for _, s := range []string{"set a =", "store x =", "cas a = x ,", "cas a = x , b ,", "fadd a = x ,", "xchg a = x ,", "await x ==", "await x !=", "if", "while"} {
		at := len(s) + 1
		fails(t, s+" "+deep+";", api.ErrDeep, at)
		fails(t, s+" "+deep+" {}", api.ErrDeep, at)
		fails(t, s+" "+deep+"+;", api.ErrToken, at+len(deep)+1)
		fails(t, s+" !!("+wide+");", api.ErrBig, at)
		fails(t, s+" "+wide+"+a jump", api.ErrBig, at)
		fails(t, s+" "+open+"a;", api.ErrDeep, at+30)
		fails(t, s+" "+open[1:]+"a;", api.ErrToken, at+31)
	}
	parsed(t, "set a = !("+wide+");")
	parsed(t, "if !("+wide+") {}")
}

// A ( or a comparison within an expression has nothing to do with blocks.
func TestParseNesting(t *testing.T) {
	in, out := strings.Repeat("loop{", 30), strings.Repeat("}", 30)
	if x := parsed(t, in+out); len(x) != 30 || x[0].Body != 29 || x[29].Body != 0 || stmt.Depth(x) != 30 {
		t.Error(x)
	}
	for _, s := range []string{
		strings.Repeat("while a{", 30) + out,
		strings.Repeat("if a{", 30) + out,
		strings.Repeat("if a{}else{", 30) + out,
		strings.Repeat("if a{loop{while b{", 10) + out,
		in + "skip;set a = " + strings.Repeat("(", 30) + "b" + strings.Repeat(")", 30) + ";" + out,
		// What is closed again is nested in nothing any more.
		in + out + in + out,
		strings.Repeat("loop{", 29) + "if a {} else {} while b {} loop {}" + strings.Repeat("}", 29),
	} {
		if x := parsed(t, s); stmt.Depth(x) != 30 || !stmt.Right(x) {
			t.Errorf("%q has depth %d", s, stmt.Depth(x))
		}
	}
	fails(t, in+"loop{", api.ErrDeep, 154)
	fails(t, in+"loop {}"+out, api.ErrDeep, 155)
	fails(t, in+"while a {}"+out, api.ErrDeep, 158)
	fails(t, in+"if a {}"+out, api.ErrDeep, 155)
	fails(t, in+"skip; loop {", api.ErrDeep, 161)
	fails(t, " "+in+out+in+"loop{", api.ErrDeep, 1+180+154)
	fails(t, strings.Repeat("if a{}else{", 30)+"loop {", api.ErrDeep, 335)
	fails(t, strings.Repeat("loop{", 29)+"if a {} else {loop{", api.ErrDeep, 145+18)
	refuses(t, tokens(t, "} "+in+"loop{"), 1, api.ErrDeep, 156)
	fails(t, in+"loop;", api.ErrToken, 154)
	fails(t, in+"loop", api.ErrEnd, 154)
	fails(t, in+"{", api.ErrToken, 150)
	ends(t, in+out+"} loop {", 0, 90, 30)
}

func TestParseCount(t *testing.T) {
	if x := parsed(t, strings.Repeat("skip;", 200)); len(x) != 200 || x[199].At != 995 {
		t.Error(len(x))
	}
	fails(t, strings.Repeat("skip;", 201), api.ErrBig, 0)
	fails(t, "  "+strings.Repeat("skip;", 201)+"}", api.ErrBig, 2)
	refuses(t, tokens(t, "} "+strings.Repeat("skip;", 500)), 1, api.ErrBig, 2)
	// Nested statements are counted as well.
	for _, s := range []string{"loop {", "while a {", "if a {", "if a { } else {"} {
		if x := parsed(t, s+strings.Repeat("skip;", 199)+"}"); len(x) != 200 {
			t.Error(len(x))
		}
		fails(t, s+strings.Repeat("skip;", 200)+"}", api.ErrBig, 0)
	}
	parsed(t, strings.Repeat("if a {skip;} else {fence;break;}", 50))
	fails(t, strings.Repeat("if a {skip;} else {fence;break;}", 50)+"loop{}", api.ErrBig, 0)
	ends(t, strings.Repeat("skip;", 200)+"} skip;", 0, 400, 200)
}

func TestParseFirstError(t *testing.T) {
	many := strings.Repeat("skip;", 201)
	in := strings.Repeat("loop{", 30)
	fails(t, many+"jump;", api.ErrToken, 1005)
	fails(t, many+"skip", api.ErrEnd, 1009)
	fails(t, many+"set a = t.b;", api.ErrToken, 1013)
	fails(t, many+"set a = !("+wide+"+a);", api.ErrBig, 1013)
	fails(t, many+in+"loop{", api.ErrDeep, 1005+154)
	fails(t, in+many, api.ErrEnd, 150+1005)
	fails(t, "jump; "+many, api.ErrToken, 0)
	fails(t, "set a = t.b; jump", api.ErrToken, 8)
	fails(t, "jump; set a = ", api.ErrToken, 0)
	fails(t, "set 1 = t.b", api.ErrToken, 4)
	fails(t, "if a jump {", api.ErrToken, 5)
	fails(t, "if a else { }", api.ErrToken, 5)
	fails(t, "if a { jump } else { 7 }", api.ErrToken, 7)
	fails(t, "cas a = x, t.b, t.c;", api.ErrToken, 11)
	fails(t, "cas a = x, b, t.c", api.ErrToken, 14)
}

// Tokens that no text has: no statement may come of them.
func TestParseOddTokens(t *testing.T) {
	word := func(s string) api.Token { return api.Token{Kind: api.Ident, Text: s} }
	sign := func(s string) api.Token { return api.Token{Kind: api.Sign, Text: s} }
	for _, odd := range []api.Token{
		{},
		{Text: "skip"},
		{Kind: 4, Text: "skip"},
		{Kind: -1, Text: ";"},
		{Kind: api.Sign, Text: "skip"},
		{Kind: api.Number, Text: "skip"},
		{Kind: api.Sign, Text: "a"},
		{Kind: api.Number, Text: "a"},
		{Kind: api.Number, Text: ";"},
		{Kind: api.Ident, Text: ";"},
		{Kind: api.Ident, Text: "="},
		{Kind: api.Ident, Text: "=="},
		{Kind: api.Ident, Text: "{"},
		{Kind: api.Ident, Text: "}"},
		{Kind: api.Ident},
		{Kind: api.Ident, Text: "9a"},
		{Kind: api.Ident, Text: "abcdefghijklmnopq"},
		{Kind: api.Sign, Text: "}}"},
		{Kind: api.Sign, Text: ";;"},
		{Kind: api.Sign, Text: "else"},
		{Kind: math.MaxInt, Text: "loop"},
	} {
		odd.At = 5
		for _, before := range [][]api.Token{
			nil,
			{word("skip")},
			{word("skip"), sign(";")},
			{word("set")},
			{word("load"), word("a")},
			{word("load"), word("a"), sign("=")},
			{word("cas"), word("a"), sign("="), word("x")},
			{word("await"), word("x")},
			{word("loop")},
			{word("loop"), sign("{")},
			{word("if"), word("a"), sign("{"), sign("}")},
			{word("if"), word("a"), sign("{"), sign("}"), word("else")},
		} {
			refuses(t, append(before[:len(before):len(before)], odd), 0, api.ErrToken, 5)
		}
	}
	if x, to, e, at := stmt.Parse([]api.Token{{Kind: api.Ident, Text: "skip", N: 9, At: 77}, sign(";")}, 0); to != 2 || e != api.OK || at != 0 || !same(x, []api.Stmt{{Kind: api.Skip, At: 77}}) {
		t.Error(x, to, e, at)
	}
}

// A statement whose first token has an offset below 0 would not be valid.
func TestParseOddOffsets(t *testing.T) {
	for _, s := range append(each, "loop { if a { break ; } skip ; }") {
		good := tokens(t, s)
		for i := range good {
			l := slices.Clone(good)
			l[i].At = -1
			x, to, e, at := stmt.Parse(l, 0)
			if e == api.OK {
				if !stmt.Right(x) || to != len(l) || at != 0 {
					t.Errorf("%q with offset %d below 0: %v, %d, %d", s, i, x, to, at)
				}
			} else if e != api.ErrToken || at != -1 || len(x) != 0 || to != 0 {
				t.Errorf("%q with offset %d below 0: %v, %d, %d, %d", s, i, x, to, e, at)
			}
		}
		good[0].At = math.MinInt
		refuses(t, good, 0, api.ErrToken, math.MinInt)
	}
}

// Tokens of any number end soon, with whatever error comes first.
func TestParseLong(t *testing.T) {
	const n = 200000
	refuses(t, slices.Repeat(tokens(t, "skip;"), n), 0, api.ErrBig, 0)
	refuses(t, slices.Repeat(tokens(t, "skip;"), n)[:2*n-1], 0, api.ErrEnd, 4)
	refuses(t, slices.Repeat(tokens(t, "if a {set b = !c;} else {while d {}}"), n), 0, api.ErrBig, 0)
	refuses(t, slices.Repeat(tokens(t, "loop {"), n), 0, api.ErrDeep, 5)
	refuses(t, append(tokens(t, "   set a = "), slices.Repeat(tokens(t, "a+"), n)...), 0, api.ErrEnd, 2)
	refuses(t, slices.Repeat(tokens(t, "skip"), n), 0, api.ErrToken, 0)
	if x, to, e, at := stmt.Parse(slices.Repeat(tokens(t, "}"), n), 7); len(x) != 0 || to != 7 || e != api.OK || at != 0 {
		t.Error(x, to, e, at)
	}
}

// R4: what is passed is not changed, and what a call returns is its own.
func TestParseKeepsTokens(t *testing.T) {
	const s = "if a + 1 { cas a = x, !b, c; } else { loop { set b = b * 2; } } await x != 0;"
	l := tokens(t, s)
	room := append(slices.Clone(l), tokens(t, "skip;")...)
	before := slices.Clone(room)
	x, _, _, _ := stmt.Parse(room[:len(l)], 0)
	shown := stmt.Show(x, 0)
	y, _, _, _ := stmt.Parse(room[:len(l)], 0)
	for _, z := range y {
		clear(z.E[:cap(z.E)])
		clear(z.F[:cap(z.F)])
	}
	clear(y[:cap(y)])
	if !slices.Equal(room, before) || stmt.Show(x, 0) != shown || shown == "" {
		t.Error(room, shown)
	}
	clear(room)
	if stmt.Show(x, 0) != shown {
		t.Error(stmt.Show(x, 0))
	}
	// No two expressions of one result share memory.
	for i := range x {
		clear(x[i].E[:cap(x[i].E)])
		x[i].E = nil
	}
	if expr.Show(x[1].F) != "c" {
		t.Error(x[1].F)
	}
}
