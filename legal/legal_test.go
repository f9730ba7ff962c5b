package legal_test

import (
	"math"
	"slices"
	"strings"
	"testing"

	"spinnaker/api"
	"spinnaker/legal"
	"spinnaker/prog"
)

// parsed is the program that a text is.
func parsed(t *testing.T, s string) api.Prog {
	t.Helper()
	p, e, at := prog.Parse(s)
	if e != api.OK {
		t.Fatalf("Parse(%q): %d, %d", s, e, at)
	}
	return p
}

// gives fails the test unless Check returns this for a program.
func gives(t *testing.T, p api.Prog, e api.Errno, at int) {
	t.Helper()
	if gotE, gotAt := legal.Check(p); gotE != e || gotAt != at {
		t.Errorf("Check(%v) = %d, %d, want %d, %d", p, gotE, gotAt, e, at)
	}
}

// fails fails the test unless a text without its @ is a program with this error, which is
// mentioned at the @, or at 0 if there is none.
func fails(t *testing.T, s string, e api.Errno) {
	t.Helper()
	p := parsed(t, strings.Replace(s, "@", "", 1))
	if gotE, at := legal.Check(p); gotE != e || at != max(0, strings.Index(s, "@")) {
		t.Errorf("Check of %q = %d, %d, want %d", s, gotE, at, e)
	}
}

// every is a program with statements and claims of each kind.
const every = `mod 3; loc x = 2; loc y = 0;
thread t { reg a, b;
	skip; set a = b + 2; load a = x; store y = a * !b; cas b = y, 0, a - 1; fadd a = x, 2; xchg b = y, 1;
	fence; await x == a; await y != 2 * b;
	if a < b { skip; } else { set b = 0; }
	while a <= 2 { break; }
	loop { if a || b { break; } else { skip; } }
}
thread u { }
thread v { reg a; loop { load a = y; } }
forall t.a == 2 || v.a != x; exists !y && t.b; always 1;`

// atLimits is a program with as much of everything as there may be.
func atLimits() string {
	s := "mod 16;"
	for _, name := range []string{"l", "m", "n", "o", "p", "q"} {
		s += "loc " + name + " = 15;"
	}
	for _, name := range []string{"t", "u", "v", "w"} {
		s += "thread " + name + " { reg a, b, c, d, e, f; set f = 15; xchg a = q, f; }"
	}
	return s + strings.Repeat("always w.f != q + 15;", api.MaxClaims)
}

// wellFormed are texts of programs without an error.
func wellFormed() []string {
	deep := strings.Repeat("loop { ", api.MaxDepth) + "break; " + strings.Repeat("} ", api.MaxDepth)
	return []string{
		every,
		atLimits(),
		"mod 2; thread t { }",
		"mod 16; thread t { }",
		"mod 2; thread t { skip; fence; loop { } }",
		"mod 2; loc x = 1; thread t { }",
		"mod 2; loc x = 1; thread t { store x = 1; } exists x == 1;",
		"mod 16; loc x = 15; thread t { reg a; store x = a + 15; } exists t.a == x && x != 15;",
		"mod 2; thread t { reg a; set a = !a; } forall t.a;",
		"mod 2; thread t { } forall 1; forall 1;",
		"mod 2; thread t { reg a; if a { } while 1 { } set a = 1; }",
		"mod 2; thread t { " + deep + deep + "}",
		// Names may be equal where nothing else is said.
		"mod 2; loc t = 0; thread t { store t = 1; } always t == 0;",
		"mod 2; loc x = 0; thread t { reg t, u; set t = u; } thread u { reg t, u; } thread x { } exists t.u == u.t;",
		"mod 2; loc x = 0; loc X = 0; thread t { reg a, A, _x; } thread T { }",
		// A location may have a name that is a register's of another thread only if it is none's.
		"mod 2; loc x = 0; thread t { reg y; } thread u { reg y; load y = x; } exists t.y == u.y;",
	}
}

// P5.1: well-formed programs.

func TestWellFormed(t *testing.T) {
	for _, s := range wellFormed() {
		fails(t, s, api.OK)
	}
}

// P5.1: programs that are not valid.

func TestNotValid(t *testing.T) {
	num, reg, loc := api.Node{Op: api.Num, N: 1}, api.Node{Op: api.Reg, Name: "a"}, api.Node{Op: api.Loc, Name: "x"}
	for i, change := range []func(*api.Prog){
		func(p *api.Prog) { p.Mod = -1 },
		func(p *api.Prog) { p.Mod = 10000 },
		func(p *api.Prog) { p.Locs[1].Name = "if" },
		func(p *api.Prog) { p.Locs[0].N = -1 },
		func(p *api.Prog) { p.Locs[0].N = math.MaxInt },
		func(p *api.Prog) { p.Locs[1].At = -1 },
		func(p *api.Prog) { p.Threads[0].Name = "" },
		func(p *api.Prog) { p.Threads[2].Regs[0] = "1" },
		func(p *api.Prog) { p.Threads[1].At = math.MinInt },
		func(p *api.Prog) { p.Threads[0].Body[0].Kind = 0 },
		func(p *api.Prog) { p.Threads[0].Body[0].Kind = 14 },
		func(p *api.Prog) { p.Threads[0].Body[0].At = -1 },
		func(p *api.Prog) { p.Threads[0].Body[0].Reg = "a" },
		func(p *api.Prog) { p.Threads[2].Body[0].Body = 2 },
		func(p *api.Prog) { p.Threads[2].Body[0].Body = math.MaxInt },
		func(p *api.Prog) { p.Threads[0].Body[1].E = nil },
		func(p *api.Prog) { p.Threads[0].Body[1].E = []api.Node{num, num} },
		func(p *api.Prog) { p.Threads[0].Body[1].E = []api.Node{loc} },
		func(p *api.Prog) { p.Threads[0].Body[1].F = []api.Node{num} },
		func(p *api.Prog) { p.Threads[0].Body = make([]api.Stmt, api.MaxStmts+1) },
		func(p *api.Prog) { p.Claims[0].Kind = 4 },
		func(p *api.Prog) { p.Claims[1].E = []api.Node{reg} },
		func(p *api.Prog) { p.Claims[1].E = []api.Node{} },
		func(p *api.Prog) { p.Claims[2].E[0].At = -1 },
		func(p *api.Prog) { p.Claims[2].At = -1 },
	} {
		p := parsed(t, every)
		gives(t, p, api.OK, 0)
		change(&p)
		if e, at := legal.Check(p); e != api.ErrForm || at != 0 {
			t.Errorf("change %d: %d, %d", i, e, at)
		}
	}
	gives(t, api.Prog{Mod: -1}, api.ErrForm, 0)
	gives(t, api.Prog{Mod: math.MinInt, Locs: make([]api.Var, 1000)}, api.ErrForm, 0)
}

// P5.1: one error, or several in one part, of which the first is the answer.

func TestMod(t *testing.T) {
	for _, s := range []string{"0", "1", "17", "18", "9999"} {
		fails(t, "mod "+s+"; thread t { }", api.ErrRange)
		fails(t, " mod "+s+"; loc x = 9999; loc x = 9999; forall y;", api.ErrRange)
	}
	gives(t, api.Prog{}, api.ErrRange, 0)
	for m := 2; m <= api.MaxMod; m++ {
		gives(t, api.Prog{Mod: m, Threads: []api.Thread{{Name: "t"}}}, api.OK, 0)
	}
}

func TestLocations(t *testing.T) {
	six := "mod 3; loc a = 0; loc b = 1; loc c = 2; loc d = 0; loc e = 0; loc f = 0;"
	fails(t, six+" thread t { }", api.OK)
	fails(t, six+" @loc g = 0; thread t { }", api.ErrCount)
	fails(t, six+" @loc g = 0; loc h = 0; loc g = 3; thread t { }", api.ErrCount)
	fails(t, six+" @loc a = 3;", api.ErrCount)
	fails(t, "mod 3; loc a = 0; loc b = 0; loc c = 0; loc d = 0; loc e = 0; @loc a = 0; loc g = 0; thread t { }", api.ErrTwice)
	fails(t, "mod 3; loc a = 0; loc b = 0; loc c = 0; loc d = 0; loc e = 0; @loc f = 3; loc g = 0; thread t { }", api.ErrRange)
	fails(t, "mod 3; loc a = 0; @loc a = 0; thread t { }", api.ErrTwice)
	fails(t, "mod 3; loc a = 0; @loc a = 3; thread t { }", api.ErrTwice)
	fails(t, "mod 3; loc a = 0; loc b = 0; @loc a = 0; loc b = 0; thread t { }", api.ErrTwice)
	fails(t, "mod 3; loc a = 0; loc b = 0; @loc b = 0; loc a = 0; thread t { }", api.ErrTwice)
	fails(t, "mod 3; @loc a = 3; loc a = 0; thread t { }", api.ErrRange)
	fails(t, "mod 3; loc a = 2; @loc b = 3; thread t { }", api.ErrRange)
	fails(t, "mod 2; loc a = 1; @loc b = 9999; loc c = 2; thread t { }", api.ErrRange)
	fails(t, "mod 16; loc a = 15; @loc b = 16; thread t { }", api.ErrRange)
}

func TestThreads(t *testing.T) {
	four := "mod 2; thread a { } thread b { } thread c { } thread d { }"
	fails(t, "mod 2;", api.ErrCount)
	fails(t, "mod 2; loc x = 0; forall y;", api.ErrCount)
	fails(t, four, api.OK)
	fails(t, four+" @thread e { }", api.ErrCount)
	fails(t, four+" @thread e { } thread f { }", api.ErrCount)
	fails(t, four+" @thread a { reg x, x; break; } exists 2;", api.ErrCount)
	fails(t, "mod 2; thread a { } thread b { } thread c { } @thread b { } thread d { }", api.ErrTwice)
	fails(t, "mod 2; thread a { } @thread a { } thread a { }", api.ErrTwice)
	fails(t, "mod 2; thread a { } @thread a { reg a, b, c, d, e, f, g; }", api.ErrTwice)
	fails(t, "mod 2; thread a { } thread b { } @thread a { }", api.ErrTwice)
}

func TestRegisters(t *testing.T) {
	fails(t, "mod 2; thread t { reg a, b, c, d, e, f; }", api.OK)
	fails(t, "mod 2; @thread t { reg a, b, c, d, e, f, g; }", api.ErrCount)
	fails(t, "mod 2; @thread t { reg a, b, c, d, e, f, a; }", api.ErrCount)
	fails(t, "mod 2; loc a = 0; @thread t { reg a, b, c, d, e, f, g; break; }", api.ErrCount)
	fails(t, "mod 2; @thread t { reg a, a; }", api.ErrTwice)
	fails(t, "mod 2; @thread t { reg a, b, c, d, e, b; break; }", api.ErrTwice)
	fails(t, "mod 2; loc a = 0; @thread t { reg a; }", api.ErrTwice)
	fails(t, "mod 2; loc x = 0; loc a = 0; @thread t { reg b, c, a; store y = 2; }", api.ErrTwice)
	fails(t, "mod 2; loc x = 0; thread t { reg a; } @thread u { reg a, x; }", api.ErrTwice)
	fails(t, "mod 2; thread t { reg a, b; } thread u { reg b, a; }", api.OK)
}

func TestBreak(t *testing.T) {
	// What a thread does, and the error that it gives.
	for _, s := range []string{
		"loop { break; }", "while 1 { break; }", "loop { if 1 { break; } }", "loop { if 1 { } else { break; } }",
		"while 1 { if 1 { if 0 { skip; } else { break; } } }", "if 1 { loop { break; } }", "if 1 { } else { while 0 { break; } }",
		"loop { loop { } break; }", "loop { loop { break; } if 1 { skip; } break; break; }", "while 1 { loop { break; skip; } } while 0 { skip; break; }",
	} {
		fails(t, "mod 2; thread t { "+s+" }", api.OK)
		fails(t, "mod 2; thread t { "+s+" @break; }", api.ErrBreak)
		fails(t, "mod 2; thread t { @break; "+s+" }", api.ErrBreak)
	}
	for _, s := range []string{
		"@break;", "skip; @break; skip; break;", "if 1 { @break; }", "if 1 { } else { @break; }", "if 1 { if 0 { } else { @break; } break; }",
		"loop { } @break;", "while 1 { break; } @break;", "loop { skip; skip; } if 1 { skip; @break; }", "if 1 { loop { } } else { @break; }",
		"if 1 { loop { break; skip; } @break; }", "if 1 { while 1 { } if 0 { @break; } loop { break; } }", "@break; loop { break; }",
	} {
		fails(t, "mod 2; thread t { "+s+" }", api.ErrBreak)
		fails(t, "mod 2; thread s { loop { break; } } thread t { "+s+" } thread s { }", api.ErrBreak)
	}
	// A loop of one thread is none of another one.
	fails(t, "mod 2; thread t { loop { skip; } } thread u { @break; }", api.ErrBreak)
	fails(t, "mod 2; thread t { loop { @set a = 0; } break; }", api.ErrName)
	fails(t, "mod 2; thread t { @break; set a = 0; }", api.ErrBreak)
}

// does makes the text of a program whose second thread, with the register a, does this. There
// are the locations x and y, and the first thread has the register b.
func does(s string) string {
	return "mod 3; loc x = 2; loc y = 0; thread t { reg b; } thread u { reg a; " + s + " }"
}

func TestStatementNames(t *testing.T) {
	for _, c := range []struct{ before, reg, loc, after string }{
		{before: "set ", reg: "a", after: " = 2;"},
		{before: "load ", reg: "a", loc: "x", after: ";"},
		{before: "store ", loc: "y", after: " = a;"},
		{before: "cas ", reg: "a", loc: "x", after: ", 2, a;"},
		{before: "fadd ", reg: "a", loc: "y", after: ", a;"},
		{before: "xchg ", reg: "a", loc: "y", after: ", 2;"},
		{before: "await ", loc: "x", after: " == a;"},
		{before: "await ", loc: "x", after: " != a;"},
	} {
		write := func(reg, loc string) string {
			if c.reg != "" && c.loc != "" {
				reg += " = "
			}
			return c.before + reg + loc + c.after
		}
		fails(t, does(write(c.reg, c.loc)), api.OK)
		for _, wrong := range []string{"b", "x", "t", "u", "A", "z"} {
			if c.reg != "" {
				fails(t, does("skip; @"+write(wrong, c.loc)), api.ErrName)
			}
		}
		for _, wrong := range []string{"a", "b", "t", "u", "X", "z"} {
			if c.loc != "" {
				fails(t, does("if 0 { @"+write(c.reg, wrong)+" }"), api.ErrName)
			}
		}
	}
	// The names of a statement come before its expressions.
	for _, s := range []string{
		"set z = 3;", "store z = 3;", "cas z = x, 3, c;", "cas a = z, c, 3;", "fadd z = x, 3;", "fadd a = z, c;",
		"xchg z = x, 3;", "xchg a = z, 3;", "await z == 3;", "await z != c;",
	} {
		fails(t, does("@"+s), api.ErrName)
	}
}

func TestStatementExpressions(t *testing.T) {
	for _, s := range []string{
		"set a = ?;", "store x = ?;", "cas a = x, ?, 2;", "cas a = x, a, ?;", "fadd a = x, ?;", "xchg a = y, ?;", "await x == ?;", "await y != ?;",
		"if ? { }", "if ? { skip; } else { skip; }", "while ? { break; }", "loop { if 1 { set a = ?; } }",
	} {
		put := func(e string) string { return does("skip; " + strings.Replace(s, "?", e, 1) + " set a = 9; break;") }
		for _, e := range []string{"a", "2", "a + 2 * !a", "(a < 2) - 0"} {
			fails(t, does(strings.Replace(s, "?", e, 1)), api.OK)
		}
		for _, e := range []string{"@b", "@x", "@u", "!@z", "a + @b", "(a < 2) == !@c", "@b + 3", "@z * c", "2 - (@c && 9999)"} {
			fails(t, put(e), api.ErrName)
		}
		for _, e := range []string{"@3", "@9999", "!@4", "a + @3", "@3 + z", "(a < 2) == !@3", "2 - (@16 || z)", "@4 - 3"} {
			fails(t, put(e), api.ErrRange)
		}
	}
	// E comes before F, and each statement before those within it and after it.
	fails(t, does("cas a = x, 2 + @3, z;"), api.ErrRange)
	fails(t, does("cas a = x, !@z, 3;"), api.ErrName)
	fails(t, does("if @3 { break; } else { set z = 0; }"), api.ErrRange)
	fails(t, does("while @z { set a = 3; }"), api.ErrName)
	fails(t, does("if a { set a = @3; } else { load a = z; }"), api.ErrRange)
	fails(t, does("set a = @c; break;"), api.ErrName)
	// The bound is Mod.
	for _, m := range []string{"2; @2", "2; 1", "15; @15", "15; 14", "16; @16", "16; 15"} {
		mod, n, _ := strings.Cut(m, "; ")
		want := api.OK
		if strings.HasPrefix(n, "@") {
			want = api.ErrRange
		}
		fails(t, "mod "+mod+"; thread t { reg a; set a = a - "+n+"; }", want)
		fails(t, "mod "+mod+"; thread t { } always 0 <= "+n+";", want)
	}
}

func TestClaims(t *testing.T) {
	before := "mod 3; loc x = 0; loc y = 1; thread t { reg a, b; } thread u { reg c; } "
	for _, kind := range []string{"forall ", "exists ", "always "} {
		for _, s := range []string{"x", "y != 2", "t.a", "t.b + u.c * x", "!(u.c == 2) || 0"} {
			fails(t, before+kind+s+";", api.OK)
		}
		for _, s := range []string{
			"@z", "@a", "@t", "@X", "x + @z", "@v.a", "@x.a", "@T.a", "@t.c", "@u.a", "@t.x", "@t.t", "@u.d", "u.c == @u.b", "!@t.c", "x <= t.b + @c",
			"@z + 3", "@v.c * z", "2 && @u.a - 9",
		} {
			fails(t, before+kind+s+"; forall 9;", api.ErrName)
		}
		for _, s := range []string{"@3", "x + @9999", "!@3 || t.a", "t.a < @3 + z", "@3 == v.a", "x * (2 - @5)"} {
			fails(t, before+"forall x; "+kind+s+"; forall z;", api.ErrRange)
		}
		eight := before + strings.Repeat(kind+"u.c < 2;", api.MaxClaims)
		fails(t, eight, api.OK)
		fails(t, eight+" @"+kind+"u.c < 2;", api.ErrCount)
		fails(t, eight+" @exists z; "+kind+"3;", api.ErrCount)
		fails(t, before+strings.Repeat(kind+"x;", api.MaxClaims-1)+kind+"@z; forall x;", api.ErrName)
	}
	// A name can be a location's, but not that of a thread's register, or the other way round.
	fails(t, "mod 2; loc t = 0; thread a { reg b; } forall @t.b;", api.ErrName)
	fails(t, "mod 2; thread a { reg b; } forall a.b; forall @b;", api.ErrName)
	fails(t, "mod 2; thread a { reg b; } thread b { reg a; } forall a.b == b.a; exists @a.a;", api.ErrName)
	fails(t, "mod 2; thread a { } forall @a.b;", api.ErrName)
}

func TestExample(t *testing.T) {
	fails(t, "mod 2; loc x = 0; thread t { @load a = x; }", api.ErrName)
}

// P5.2

func TestIndex(t *testing.T) {
	l := []string{"x", "y", "", "x", "if", "y"}
	for _, c := range []struct {
		l    []string
		name string
		want int
	}{
		{nil, "x", -1}, {nil, "", -1}, {[]string{}, "x", -1}, {l, "x", 0}, {l, "y", 1}, {l, "", 2}, {l, "if", 4},
		{l, "z", -1}, {l, "X", -1}, {l, "xy", -1}, {l[1:], "x", 2}, {l[:3][1:], "x", -1}, {l[5:], "y", 0},
	} {
		if got := legal.Index(c.l, c.name); got != c.want {
			t.Errorf("Index(%q, %q) = %d, want %d", c.l, c.name, got, c.want)
		}
	}
}

func TestLocs(t *testing.T) {
	for _, c := range []struct {
		p    api.Prog
		want []string
	}{
		{parsed(t, "mod 2; thread t { reg a; } forall t.a;"), nil},
		{parsed(t, "mod 2; loc x = 1;"), []string{"x"}},
		{parsed(t, every), []string{"x", "y"}},
		{parsed(t, atLimits()), []string{"l", "m", "n", "o", "p", "q"}},
		// Also those of programs that are not well-formed, or not valid.
		{parsed(t, "mod 2; loc z = 9; loc a = 0; loc z = 0;"), []string{"z", "a", "z"}},
		{api.Prog{Mod: -1, Locs: []api.Var{{Name: "if", N: -1, At: -1}, {}}}, []string{"if", ""}},
		{api.Prog{Locs: []api.Var{}}, nil},
		{api.Prog{}, nil},
	} {
		if got := legal.Locs(c.p); !slices.Equal(got, c.want) {
			t.Errorf("Locs(%v) = %q, want %q", c.p, got, c.want)
		}
	}
}
