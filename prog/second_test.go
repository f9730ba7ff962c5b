package prog_test

import (
	"slices"
	"strings"
	"testing"

	"spinnaker/api"
	"spinnaker/expr"
	"spinnaker/prog"
	"spinnaker/scan"
	"spinnaker/stmt"
)

// P4.1 and P4.4: against a parser of another make, for all short texts that matter, and for all
// small programs.

// forms are the parts of a program as the chapter writes them: N a number, A a name, R the
// registers, S statements, E an expression. The first form occurs once, those of each other line
// any number of times.
var forms = [][]string{
	{"mod N ;"},
	{"loc A = N ;"},
	{"thread A { R S }"},
	{"forall E ;", "exists E ;", "always E ;"},
}

// follower reads tokens as the forms say. It panics with a stop at an error.
type follower struct {
	l []api.Token
	i int
	p api.Prog
}

type stop struct {
	e  api.Errno
	at int
}

// follow is what Parse should return.
func follow(s string) (p api.Prog, e api.Errno, at int) {
	defer func() {
		if s, ok := recover().(stop); ok {
			p, e, at = api.Prog{}, s.e, s.at
		}
	}()
	l, e, at := scan.Scan(s)
	f := follower{l: l}
	f.check(e, at)
	f.form(forms[0][0], 0)
	for _, line := range forms[1:] {
		for k := f.chosen(line); k >= 0; k = f.chosen(line) {
			f.form(line[k], k+1)
		}
	}
	if f.i < len(l) {
		f.take(false)
	}
	return f.p, api.OK, 0
}

func (f *follower) check(e api.Errno, at int) {
	if e != api.OK {
		panic(stop{e, at})
	}
}

func (f *follower) text() string {
	if f.i == len(f.l) {
		return ""
	}
	return f.l[f.i].Text
}

// chosen is the index of the form that the next token begins, or -1.
func (f *follower) chosen(line []string) int {
	return slices.IndexFunc(line, func(form string) bool { return strings.Fields(form)[0] == f.text() })
}

// take takes the next token, or stops at it unless it can stand there.
func (f *follower) take(can bool) api.Token {
	if f.i == len(f.l) {
		if f.i == 0 {
			panic(stop{api.ErrEnd, 0})
		}
		last := f.l[f.i-1]
		panic(stop{api.ErrEnd, last.At + len(last.Text)})
	}
	if !can {
		panic(stop{api.ErrToken, f.l[f.i].At})
	}
	f.i++
	return f.l[f.i-1]
}

// form reads a form, which is the one of this kind in its line, and adds it to the program.
func (f *follower) form(form string, kind int) {
	var v api.Var
	var t api.Thread
	var c api.Claim
	first := f.i
	for _, symbol := range strings.Fields(form) {
		switch symbol {
		case "N":
			v.N = f.take(strings.Contains("0123456789", f.text()[:min(1, len(f.text()))])).N
		case "A":
			v.Name = f.take(scan.Name(f.text())).Text
		case "R":
			t.Regs = f.registers()
		case "S":
			l, to, e, at := stmt.Parse(f.l, f.i)
			f.check(e, at)
			t.Body, f.i = l, to
		case "E":
			l, to, e, at := expr.Parse(f.l, f.i)
			f.check(e, at)
			c.E, f.i = global(l), to
		default:
			f.take(f.text() == symbol)
		}
	}
	at := f.l[first].At
	switch form[:3] {
	case "mod":
		f.p.Mod = v.N
	case "loc":
		f.p.Locs = append(f.p.Locs, api.Var{Name: v.Name, N: v.N, At: at})
	case "thr":
		f.p.Threads = append(f.p.Threads, api.Thread{Name: v.Name, Regs: t.Regs, Body: t.Body, At: at})
	default:
		f.p.Claims = append(f.p.Claims, api.Claim{Kind: kind, E: c.E, At: at})
	}
}

func (f *follower) registers() []string {
	var names []string
	for before := "reg"; f.text() == before; before = "," {
		f.i++
		names = append(names, f.take(scan.Name(f.text())).Text)
	}
	if names != nil {
		f.take(f.text() == ";")
	}
	return names
}

// global is an expression in which single names are those of locations.
func global(l []api.Node) []api.Node {
	l = slices.Clone(l)
	for i, n := range l {
		if n.Op == api.Reg {
			l[i] = loc(n.Name, n.At)
		}
	}
	return l
}

// agrees fails the test unless both parsers say the same of a text.
func agrees(t *testing.T, s string) api.Errno {
	t.Helper()
	p, e, at := prog.Parse(s)
	q, secondE, secondAt := follow(s)
	if e != secondE || at != secondAt || !same(p, q) {
		t.Fatalf("Parse(%q) = %v, %d, %d, and by the other parser %v, %d, %d", s, p, e, at, q, secondE, secondAt)
	}
	if !prog.Right(p) {
		t.Fatalf("Parse(%q) = %v is not valid", s, p)
	}
	return e
}

// grow compares the parsers for a text and for all that come of it by up to n more words, but for
// those whose beginning was refused already.
func grow(t *testing.T, s string, n int, words []string) int {
	t.Helper()
	count := 1
	if e := agrees(t, s); n == 0 || e == api.ErrToken {
		return count
	}
	for _, w := range words {
		count += grow(t, s+w+" ", n-1, words)
	}
	return count
}

func TestParseAsOther(t *testing.T) {
	all := slices.Concat(every, []string{"a", "7"})
	total := grow(t, "", 8, all)
	total += grow(t, "mod 2 ; loc x = 1 ; thread t { reg a ", 6, all)
	total += grow(t, "mod 2 ; thread t { } forall x ", 5, all)
	total += grow(t, "mod 2 ; ", 17, []string{"loc", "thread", "x", "=", "1", ";", "{", "}"})
	total += grow(t, "mod 2 ; thread ", 13, []string{"thread", "reg", "t", ",", ";", "{", "}"})
	total += grow(t, "mod 2 ; thread t { ", 12, []string{"reg", "fence", "loop", "a", ";", "{", "}"})
	total += grow(t, "mod 2 ; ", 9, []string{"forall", "always", "x", ".", "<", ";", "1"})
	if total < 100000 {
		t.Error(total)
	}
}

// again fails the test unless the text of a program is parsed as that program.
func again(t *testing.T, p api.Prog) {
	t.Helper()
	s := prog.Show(p)
	q, e, at := prog.Parse(s)
	if s == "" || e != api.OK || at != 0 || !prog.Right(q) || !same(prog.Bare(q), prog.Bare(p)) {
		t.Fatalf("%v is shown as %q, which is parsed as %v, %d, %d", p, s, q, e, at)
	}
	if prog.Show(q) != s || agrees(t, s) != api.OK {
		t.Fatalf("%q is shown as %q", s, prog.Show(q))
	}
}

// lists is all lists of up to n of some elements.
func lists[T any](n int, elements []T) [][]T {
	all := [][]T{nil}
	for from := 0; n > 0; n-- {
		to := len(all)
		for _, l := range all[from:to] {
			for _, x := range elements {
				all = append(all, append(slices.Clone(l), x))
			}
		}
		from = to
	}
	return all
}

func TestShownIsParsed(t *testing.T) {
	locs := lists(2, []api.Var{{Name: "x", At: 8}, {Name: "y", N: 9999}, {Name: "t", N: 10}})
	var bodies [][]api.Stmt
	for _, s := range []string{"", "skip;", "loop { break; }", "if a { fence; } else { set a = a + 1; } await x != a;"} {
		bodies = append(bodies, parsed(t, "mod 2; thread t {"+s+"}").Threads[0].Body)
	}
	var threads []api.Thread
	for _, regs := range lists(2, []string{"a", "t"}) {
		for _, body := range bodies {
			threads = append(threads, api.Thread{Name: "t", Regs: regs, Body: body, At: 9})
		}
	}
	var claims []api.Claim
	for kind := api.Forall; kind <= api.Always; kind++ {
		for _, e := range [][]api.Node{nodes(loc("x", 7)), nodes(of("t", "a", 0)), nodes(op(api.Le, 0), op(api.Not, 1), loc("t", 0), num(9999, 0))} {
			claims = append(claims, api.Claim{Kind: kind, E: e, At: 5})
		}
	}
	count := 0
	for _, l := range locs {
		for _, u := range lists(1, threads) {
			for _, c := range lists(1, claims) {
				again(t, api.Prog{Mod: count % 10000, Locs: l, Threads: u, Claims: c})
				count++
			}
		}
	}
	for _, u := range lists(2, threads) {
		again(t, api.Prog{Threads: u})
	}
	for _, c := range lists(3, claims) {
		again(t, api.Prog{Claims: c})
	}
	if count < 1000 {
		t.Error(count)
	}
}

func TestShownAtLimits(t *testing.T) {
	in, out := strings.Repeat("loop{", 30), strings.Repeat("}", 30)
	for _, s := range []string{
		"mod 0;",
		"mod 9999; loc abcdefghijklmnop = 9999; thread ABCDEFGHIJKLMNOP { }",
		"mod 2; thread t {" + in + "fence;" + out + "}",
		"mod 2; thread t { reg a; " + strings.Repeat("skip;", 200) + "}",
		"mod 2; thread t { set a = !(" + wide + "); }",
		"mod 2; always !(" + wide + ");",
		"mod 2; exists " + strings.Repeat("!", 30) + "x;",
		"mod 2; forall " + strings.Repeat("(x+", 29) + "t.a" + strings.Repeat(")", 29) + ";",
		"mod 2; forall x;" + strings.Repeat("exists t.a;", 100),
	} {
		again(t, parsed(t, s))
	}
}

// A valid program can have a text that is too long to be one.
func TestShownLongText(t *testing.T) {
	p := api.Prog{Locs: slices.Repeat([]api.Var{{Name: "x"}}, 1817)}
	p.Locs[0].Name = "x23456"
	if n := len(prog.Show(p)); n != api.MaxText-1 {
		t.Fatal(n)
	}
	again(t, p)
	p.Mod = 10
	again(t, p)
	p.Mod = 100
	if n := len(prog.Show(p)); !prog.Right(p) || n != api.MaxText+1 {
		t.Error(n)
	}
	fails(t, prog.Show(p), api.ErrBig, api.MaxText)
}
