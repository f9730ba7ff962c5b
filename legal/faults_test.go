package legal_test

import (
	"math"
	"slices"
	"strings"
	"testing"

	"spinnaker/api"
	"spinnaker/legal"
	"spinnaker/prog"
)

// P5.1: programs with any two errors, of which the first is the answer.

// parts are the parts of a well-formed program.
var parts = []string{
	"mod 4;",
	"loc x = 3;",
	"loc y = 0;",
	"",
	"thread t { reg a, b;",
	"load a = x;",
	"set b = a + 3;",
	"loop { if a { break; } }",
	"} thread u { reg c;",
	"cas c = y, 1, c;",
	"}",
	"forall t.a == x && 3 != u.c;",
	"exists y;",
	"",
}

// fault is a part with an error, in the place of another one. The error is mentioned at the @.
type fault struct {
	part int
	text string
	e    api.Errno
}

// faults are in the order of the parts, which is that of the chapter.
var faults = []fault{
	{0, "@mod 1;", api.ErrRange},
	{0, "@mod 17;", api.ErrRange},
	{1, "@loc x = 4;", api.ErrRange},
	{2, "@loc x = 0;", api.ErrTwice},
	{2, "@loc x = 9;", api.ErrTwice},
	{2, "@loc y = 4;", api.ErrRange},
	{3, "loc l = 0; loc m = 0; loc n = 0; loc o = 0; @loc p = 0;", api.ErrCount},
	{3, "loc l = 0; loc m = 0; loc n = 0; loc o = 0; @loc x = 4;", api.ErrCount},
	{4, "@thread t { reg a, b, c, d, e, f, g;", api.ErrCount},
	{4, "@thread t { reg a, b, b, x, e, f, g; break;", api.ErrCount},
	{4, "@thread t { reg a, b, a;", api.ErrTwice},
	{4, "@thread t { reg a, b, x; break;", api.ErrTwice},
	{5, "@break;", api.ErrBreak},
	{5, "if a { } else { @break; }", api.ErrBreak},
	{5, "@load c = x;", api.ErrName},
	{5, "@load a = z;", api.ErrName},
	{6, "@set c = 4;", api.ErrName},
	{6, "set b = @c + 4;", api.ErrName},
	{6, "set b = @4 + c;", api.ErrRange},
	{7, "loop { } if a { @break; }", api.ErrBreak},
	{7, "loop { if @x { break; } }", api.ErrName},
	{8, "} @thread t { reg c, c;", api.ErrTwice},
	{8, "} @thread u { reg c, d, e, f, g, h, i;", api.ErrCount},
	{8, "} @thread u { reg c, y;", api.ErrTwice},
	{8, "} thread u { reg c; @break;", api.ErrBreak},
	{9, "cas c = y, @a, 4;", api.ErrName},
	{9, "cas c = y, @4, a;", api.ErrRange},
	{9, "cas c = y, 3, @a;", api.ErrName},
	{9, "cas c = y, c, @4;", api.ErrRange},
	{10, "} thread v { } thread w { } @thread q { }", api.ErrCount},
	{10, "} thread v { } thread w { } @thread t { reg x, x; break; }", api.ErrCount},
	{11, "forall @z;", api.ErrName},
	{11, "forall t.a == @v.a && 4 != u.c;", api.ErrName},
	{11, "forall @t.c == x && 3 != u.b;", api.ErrName},
	{11, "forall t.a == x && @4 != u.b;", api.ErrRange},
	{12, "exists @a;", api.ErrName},
	{13, strings.Repeat("always x;", 6) + " @always x;", api.ErrCount},
	{13, strings.Repeat("always x;", 6) + " @always z + 4;", api.ErrCount},
}

// broken is a program with a fault, before all its others, that is mentioned at an offset.
type broken struct {
	p     api.Prog
	first fault
	at    int
}

// with is the program with these faults, which are in different parts.
func with(t *testing.T, l ...fault) broken {
	t.Helper()
	s := slices.Clone(parts)
	for _, f := range l {
		s[f.part] = f.text
	}
	text := strings.Join(s, "")
	return broken{parsed(t, strings.ReplaceAll(text, "@", "")), l[0], strings.Index(text, "@")}
}

// pairs are the programs that have one of the faults, or two of them.
func pairs(t *testing.T) []broken {
	t.Helper()
	var l []broken
	for i, first := range faults {
		l = append(l, with(t, first))
		for _, second := range faults[i+1:] {
			if second.part != first.part {
				l = append(l, with(t, first, second))
			}
		}
	}
	return l
}

func TestTwoErrors(t *testing.T) {
	gives(t, parsed(t, strings.Join(parts, "")), api.OK, 0)
	for _, b := range pairs(t) {
		gives(t, b.p, b.first.e, b.at)
	}
}

// What is wrong of Mod and of the locations comes before that there are no threads, and what is
// wrong of the claims after it.
func TestErrorsWithoutThreads(t *testing.T) {
	for _, b := range pairs(t) {
		b.p.Threads = nil
		if b.first.part < 4 {
			gives(t, b.p, b.first.e, b.at)
		} else {
			gives(t, b.p, api.ErrCount, 0)
		}
	}
}

// That a program is not valid comes before all others.
func TestErrorsOfNotValid(t *testing.T) {
	for _, b := range pairs(t) {
		b.p.Claims = append(b.p.Claims, api.Claim{})
		gives(t, b.p, api.ErrForm, 0)
	}
}

// P5.3

// moved is a program with other offsets: each is what the function makes of it.
func moved(p api.Prog, f func(at int) int) api.Prog {
	nodes := func(l []api.Node) []api.Node {
		l = slices.Clone(l)
		for i := range l {
			l[i].At = f(l[i].At)
		}
		return l
	}
	p.Locs, p.Threads, p.Claims = slices.Clone(p.Locs), slices.Clone(p.Threads), slices.Clone(p.Claims)
	for i := range p.Locs {
		p.Locs[i].At = f(p.Locs[i].At)
	}
	for i := range p.Threads {
		u := &p.Threads[i]
		u.At, u.Body = f(u.At), slices.Clone(u.Body)
		for k := range u.Body {
			s := &u.Body[k]
			s.At, s.E, s.F = f(s.At), nodes(s.E), nodes(s.F)
		}
	}
	for i := range p.Claims {
		p.Claims[i].At, p.Claims[i].E = f(p.Claims[i].At), nodes(p.Claims[i].E)
	}
	return p
}

// moves are functions of offsets from 0 to MaxText. None of their values is below 0.
var moves = []func(int) int{
	func(int) int { return 0 },
	func(at int) int { return at + 1 },
	func(at int) int { return api.MaxText - at },
	func(at int) int { return math.MaxInt - at },
	func(at int) int { return at * 7919 % 20011 },
}

func TestOffsetsDoNotMatter(t *testing.T) {
	for _, s := range wellFormed() {
		p := parsed(t, s)
		gives(t, prog.Bare(p), api.OK, 0)
		for _, f := range moves {
			gives(t, moved(p, f), api.OK, 0)
		}
	}
	// An error moves with what is mentioned, but for those that are at 0 in any program.
	for _, b := range pairs(t) {
		for _, f := range moves {
			at := 0
			if b.first.part > 0 {
				at = f(b.at)
			}
			gives(t, moved(b.p, f), b.first.e, at)
		}
	}
}

func TestClaimsDoNotMatter(t *testing.T) {
	for _, s := range wellFormed() {
		p := parsed(t, s)
		l := p.Claims
		for i := range l {
			p.Claims = slices.Delete(slices.Clone(l), i, i+1)
			gives(t, p, api.OK, 0)
		}
		p.Claims = nil
		gives(t, p, api.OK, 0)
		p.Claims = []api.Claim{}
		gives(t, moved(p, moves[2]), api.OK, 0)
	}
}

// P5.1: against a check of another make, that lists everything that is wrong in the chapter's
// order, for all programs of these pieces.

var pieces = [][]string{
	{"mod 1;", "mod 2;", "mod 3;"},
	{"", "loc x = 0;", "loc x = 2; loc y = 3;", "loc y = 0; loc x = 1; loc y = 2;"},
	{"", "thread u { reg a; }", "thread u { reg b, b; }", "thread u { break; }"},
	{"", "thread t { reg a; ?}", "thread t { reg b, a; loop { ?} }", "thread u { ?}", "thread x { reg x; ?}"},
	{
		"", "break; ", "if 1 { break; } ", "while a { if b { skip; } else { break; } set a = 2; } break; ", "loop { } loop { break; } if 2 { break; } ",
		"set a = b; ", "load b = x; ", "load a = y; ", "store x = a + 2; ", "cas a = x, 1, b; ", "cas a = x, b, 2; ", "fadd a = z, 3; ", "await y != 2; ",
	},
	{"", "forall x;", "exists u.a == t.b;", "always 2 < y;", "forall t.a; exists t.x;", "always 1 + 3 + z;"},
}

// problem is an error, and where it is mentioned.
type problem struct {
	e  api.Errno
	at int
}

// problems is all that is wrong of a valid program.
func problems(p api.Prog) []problem {
	var l []problem
	note := func(wrong bool, e api.Errno, at int) {
		if wrong {
			l = append(l, problem{e, at})
		}
	}
	locs := legal.Locs(p)
	note(p.Mod < 2 || p.Mod > 16, api.ErrRange, 0)
	for i, v := range p.Locs {
		note(i == 6, api.ErrCount, v.At)
		note(slices.Contains(locs[:i], v.Name), api.ErrTwice, v.At)
		note(v.N >= p.Mod, api.ErrRange, v.At)
	}
	note(len(p.Threads) == 0, api.ErrCount, 0)
	for i, u := range p.Threads {
		named := func(o api.Thread) bool { return o.Name == u.Name }
		note(i == 4, api.ErrCount, u.At)
		note(slices.ContainsFunc(p.Threads[:i], named), api.ErrTwice, u.At)
		note(len(u.Regs) > 6, api.ErrCount, u.At)
		for k, r := range u.Regs {
			note(slices.Contains(u.Regs[:k], r) || slices.Contains(locs, r), api.ErrTwice, u.At)
		}
		outside := breaks(u.Body, 0)
		for k, s := range u.Body {
			note(slices.Contains(outside, k), api.ErrBreak, s.At)
			note(s.Reg != "" && !slices.Contains(u.Regs, s.Reg), api.ErrName, s.At)
			note(s.Loc != "" && !slices.Contains(locs, s.Loc), api.ErrName, s.At)
			for _, n := range slices.Concat(s.E, s.F) {
				note(n.Op == api.Reg && !slices.Contains(u.Regs, n.Name), api.ErrName, n.At)
				note(n.Op == api.Num && n.N >= p.Mod, api.ErrRange, n.At)
			}
		}
	}
	for i, c := range p.Claims {
		note(i == 8, api.ErrCount, c.At)
		for _, n := range c.E {
			owner := func(u api.Thread) bool { return u.Name == n.In && slices.Contains(u.Regs, n.Name) }
			note(n.Op == api.Loc && !slices.Contains(locs, n.Name), api.ErrName, n.At)
			note(n.Op == api.Of && !slices.ContainsFunc(p.Threads, owner), api.ErrName, n.At)
			note(n.Op == api.Num && n.N >= p.Mod, api.ErrRange, n.At)
		}
	}
	return l
}

// breaks are the places of each Break that is in no While or Loop of these statements, of which
// the first is in the place from.
func breaks(l []api.Stmt, from int) []int {
	var places []int
	for i := 0; i < len(l); {
		s, within := l[i], l[i+1:][:l[i].Body+l[i].Else]
		switch s.Kind {
		case api.Break:
			places = append(places, from+i)
		case api.If:
			places = append(places, breaks(within, from+i+1)...)
		}
		i += 1 + len(within)
	}
	return places
}

// compares fails the test unless Check returns the first of a program's problems, and tells
// whether there is none.
func compares(t *testing.T, s string) bool {
	t.Helper()
	p := parsed(t, s)
	l := append(problems(p), problem{})
	gives(t, p, l[0].e, l[0].at)
	return l[0].e == api.OK
}

func TestAgainstAnother(t *testing.T) {
	texts := []string{""}
	for _, choice := range pieces[:4] {
		texts = products(texts, choice, func(before, s string) string { return before + s })
	}
	texts = products(texts, pieces[4], func(before, s string) string { return strings.ReplaceAll(before, "?", s) })
	texts = products(texts, pieces[5], func(before, s string) string { return before + s })
	good := 0
	for _, s := range texts {
		if compares(t, s) {
			good++
		}
	}
	if good < 100 || len(texts)-good < 1000 {
		t.Errorf("%d of %d programs are well-formed", good, len(texts))
	}
}

// nests are the texts of all sequences of n statements that are If, While, Loop, Break or Skip.
func nests(n int) []string {
	if n == 0 {
		return []string{""}
	}
	l := []string{}
	for i := range n {
		first := []string{}
		for _, body := range nests(i) {
			first = append(first, "loop {"+body+"} ", "while 1 {"+body+"} ")
		}
		for k := range i + 1 {
			first = append(first, products(nests(k), nests(i-k), func(s, u string) string { return "if 1 {" + s + "} else {" + u + "} " })...)
		}
		if i == 0 {
			first = append(first, "break; ", "skip; ")
		}
		l = append(l, products(first, nests(n-1-i), func(s, u string) string { return s + u })...)
	}
	return l
}

func TestBreaksAgainstAnother(t *testing.T) {
	good := 0
	l := slices.Concat(nests(1), nests(2), nests(3), nests(4))
	for _, s := range l {
		if compares(t, "mod 2; thread t { "+s+"}") {
			good++
		}
	}
	if good < 1000 || len(l)-good < 1000 {
		t.Errorf("%d of %d programs are well-formed", good, len(l))
	}
}

// products are all texts that a function makes of an element of the one list and one of the other.
func products(l, m []string, f func(string, string) string) []string {
	var made []string
	for _, s := range l {
		for _, u := range m {
			made = append(made, f(s, u))
		}
	}
	slices.Sort(made)
	return slices.Compact(made)
}

// R4

// padded is a list with this element in its spare capacity.
func padded[T any](l []T, x T) []T {
	return append(slices.Clip(l), x, x)[:len(l)]
}

// roomy is a program whose lists have spare capacity, which is not zero.
func roomy(p api.Prog) api.Prog {
	n := api.Node{Op: 99, N: 98, Name: "97", In: "96", At: 95}
	s := api.Stmt{Kind: 99, Reg: "98", Loc: "97", At: 96}
	p = moved(p, func(at int) int { return at })
	for i := range p.Threads {
		u := &p.Threads[i]
		for k := range u.Body {
			u.Body[k].E, u.Body[k].F = padded(u.Body[k].E, n), padded(u.Body[k].F, n)
		}
		u.Regs, u.Body = padded(u.Regs, "99"), padded(u.Body, s)
	}
	for i := range p.Claims {
		p.Claims[i].E = padded(p.Claims[i].E, n)
	}
	p.Locs, p.Threads = padded(p.Locs, api.Var{Name: "99"}), padded(p.Threads, api.Thread{Name: "99"})
	p.Claims = padded(p.Claims, api.Claim{Kind: 99})
	return p
}

// whole is everything that is in the lists of a program, with their spare capacity.
func whole(p api.Prog) []any {
	var l []any
	for _, v := range p.Locs[:cap(p.Locs)] {
		l = append(l, v)
	}
	nodes := func(list []api.Node) {
		for _, n := range list[:cap(list)] {
			l = append(l, n)
		}
	}
	for _, u := range p.Threads[:cap(p.Threads)] {
		l = append(l, u.Name, u.At, len(u.Regs), len(u.Body))
		for _, r := range u.Regs[:cap(u.Regs)] {
			l = append(l, r)
		}
		for _, s := range u.Body[:cap(u.Body)] {
			l = append(l, s.Kind, s.Reg, s.Loc, s.Ne, s.Body, s.Else, s.At)
			nodes(s.E)
			nodes(s.F)
		}
	}
	for _, c := range p.Claims[:cap(p.Claims)] {
		l = append(l, c.Kind, c.At)
		nodes(c.E)
	}
	return append(l, p.Mod, len(p.Locs), len(p.Threads), len(p.Claims))
}

func TestProgramsAreKept(t *testing.T) {
	programs := []api.Prog{{}, {Mod: -1, Locs: []api.Var{{}}}}
	for _, s := range wellFormed() {
		programs = append(programs, parsed(t, s))
	}
	for _, f := range faults {
		programs = append(programs, with(t, f).p)
	}
	for _, p := range programs {
		p = roomy(p)
		before := whole(p)
		e, at := legal.Check(p)
		l := legal.Locs(p)
		clear(l[:cap(l)])
		if !slices.Equal(whole(p), before) {
			t.Errorf("%v was %v before", p, before)
		}
		gives(t, p, e, at)
		if len(p.Locs) > 0 && legal.Locs(p)[0] != p.Locs[0].Name {
			t.Errorf("Locs(%v) = %q", p, legal.Locs(p))
		}
	}
	names := padded([]string{"x", "y"}, "z")
	if legal.Index(names, "z") != -1 || !slices.Equal(names[:cap(names)][:4], []string{"x", "y", "z", "z"}) {
		t.Error(names[:cap(names)])
	}
}
