package lower_test

import (
	"fmt"
	"math"
	"slices"
	"testing"

	"spinnaker/api"
	"spinnaker/lower"
)

// example is a valid unit, with an instruction of each kind.
func example(t *testing.T) api.Unit {
	t.Helper()
	return made(t, parsed(t, `mod 4; loc x = 3; loc y = 0;
		thread t { reg a, b; set b = a; load b = y; store y = b; cas b = y, a, 1; fadd a = y, b; xchg b = x, 2; fence; await y != b; while a { } }
		thread u { }
		thread v { reg a; await x == a; }`))
}

// The places of the instructions of the example's first thread.
const (
	set = iota
	load
	store
	cas
	fadd
	xchg
	fence
	await
	branch
	jump
	done
)

// far are numbers that are no index.
var far = []int{-1, -2, math.MinInt, 1000, math.MaxInt}

// changed tells whether the example is valid after a change.
func changed(t *testing.T, change func(u *api.Unit)) bool {
	t.Helper()
	u := example(t)
	change(&u)
	return lower.Right(u)
}

// rightIf fails the test unless the example is valid after the change exactly if want holds.
func rightIf(t *testing.T, want bool, what string, change func(u *api.Unit)) {
	t.Helper()
	if got := changed(t, change); got != want {
		t.Errorf("%s: %v", what, got)
	}
}

// P7.3: what a unit consists of.

func TestRightMod(t *testing.T) {
	for mod, want := range map[int]bool{-1: false, 0: false, 1: false, 2: true, 3: true, 15: true, 16: true, 17: false, math.MinInt: false, math.MaxInt: false} {
		rightIf(t, want, fmt.Sprint("Mod ", mod), func(u *api.Unit) { u.Mod, u.Init = mod, []int{0, 0} })
	}
	rightIf(t, false, "the zero unit", func(u *api.Unit) { *u = api.Unit{} })
	rightIf(t, true, "a Num is not below Mod", func(u *api.Unit) { u.Code[0][set].E = []api.Op{{Op: api.Num, N: 9999}} })
}

func TestRightInit(t *testing.T) {
	for n, want := range map[int]bool{-1: false, 0: true, 3: true, 4: false, 5: false, math.MinInt: false, math.MaxInt: false} {
		for i := range 2 {
			rightIf(t, want, fmt.Sprint("Init ", n), func(u *api.Unit) { u.Init[i] = n })
		}
	}
	for n := range 20 {
		rightIf(t, n >= 2 && n <= api.MaxLocs, fmt.Sprint(n, " locations"), func(u *api.Unit) { u.Init = make([]int, n) })
	}
	rightIf(t, true, "no locations", func(u *api.Unit) { u.Init, u.Regs, u.Code = nil, u.Regs[1:2], u.Code[1:2] })
}

func TestRightThreads(t *testing.T) {
	last := []api.Instr{{Op: api.Done}}
	for regs := range 8 {
		for rows := range 8 {
			want := regs == rows && regs >= 1 && regs <= api.MaxThreads
			rightIf(t, want, fmt.Sprint(regs, " Regs, ", rows, " sequences"), func(u *api.Unit) {
				u.Regs, u.Code = make([]int, regs), slices.Repeat([][]api.Instr{last}, rows)
			})
		}
	}
	rightIf(t, false, "fewer sequences", func(u *api.Unit) { u.Code = u.Code[:2] })
	rightIf(t, false, "more sequences", func(u *api.Unit) { u.Code = append(u.Code, last) })
	rightIf(t, false, "no Code", func(u *api.Unit) { u.Code = nil })
	rightIf(t, false, "no Regs", func(u *api.Unit) { u.Regs = nil })
}

func TestRightRegisters(t *testing.T) {
	for n, want := range map[int]bool{-1: false, 0: true, 1: true, 6: true, 7: false, math.MinInt: false, math.MaxInt: false} {
		rightIf(t, want, fmt.Sprint(n, " registers"), func(u *api.Unit) { u.Regs[1] = n })
		rightIf(t, want && n > 0, fmt.Sprint(n, " registers of v"), func(u *api.Unit) { u.Regs[2] = n })
		rightIf(t, want && n > 1, fmt.Sprint(n, " registers of t"), func(u *api.Unit) { u.Regs[0] = n })
	}
}

// P7.3: sequences.

func TestRightSequences(t *testing.T) {
	end, wait := api.Instr{Op: api.Done}, api.Instr{Op: api.Fence}
	long := func(n int) []api.Instr { return append(slices.Repeat([]api.Instr{wait}, n-1), end) }
	for _, c := range []struct {
		what string
		l    []api.Instr
		want bool
	}{
		{"nil", nil, false},
		{"empty", []api.Instr{}, false},
		{"Done", []api.Instr{end}, true},
		{"no Done", []api.Instr{wait}, false},
		{"no Done after a Jump", []api.Instr{wait, {Op: api.Jump}}, false},
		{"Fence", []api.Instr{wait, end}, true},
		{"Done twice", []api.Instr{end, end}, false},
		{"Done between", []api.Instr{wait, end, wait, end}, false},
		{"Done before", []api.Instr{wait, end, wait}, false},
		{"999", long(999), true},
		{"1000", long(1000), true},
		{"1001", long(1001), false},
		{"2000", long(2000), false},
		{"1000 without Done", slices.Repeat([]api.Instr{wait}, 1000), false},
	} {
		for i := range 3 {
			rightIf(t, c.want, fmt.Sprint(c.what, " in ", i), func(u *api.Unit) { u.Code[i] = c.l })
		}
	}
	for _, to := range []int{0, 998, 999} {
		rightIf(t, true, fmt.Sprint("a long jump to ", to), func(u *api.Unit) {
			u.Code[1] = long(1000)
			u.Code[1][500] = api.Instr{Op: api.Jump, To: to}
		})
	}
}

func TestRightKinds(t *testing.T) {
	for op := -2; op < 100; op++ {
		bare := op == api.Load || op == api.Fence || op == api.Jump // need no field that is not zero
		rightIf(t, bare, fmt.Sprint("kind ", op, " for a Fence"), func(u *api.Unit) { u.Code[0][fence].Op = op })
		rightIf(t, op == api.Done, fmt.Sprint("kind ", op, " for Done"), func(u *api.Unit) { u.Code[0][done].Op = op })
	}
	rightIf(t, true, "Fadd for Xchg", func(u *api.Unit) { u.Code[0][xchg].Op = api.Fadd })
	rightIf(t, true, "Xchg for Fadd", func(u *api.Unit) { u.Code[0][fadd].Op = api.Xchg })
	for _, op := range []int{math.MinInt, math.MaxInt, -api.Fence} {
		rightIf(t, false, fmt.Sprint("kind ", op), func(u *api.Unit) { u.Code[0][fence].Op = op })
	}
}

// P7.3: the fields of instructions.

func TestRightIndexes(t *testing.T) {
	has := func(l []int, i int) bool { return slices.Contains(l, i) }
	numbers := append([]int{0, 1, 2, 3, 8, 9, 10, 11, 12}, far...)
	for at := set; at <= done; at++ {
		for _, n := range numbers {
			reg := n == 0 || n == 1 && has([]int{set, load, cas, fadd, xchg}, at)
			rightIf(t, reg, fmt.Sprint("Reg ", n, " of ", at), func(u *api.Unit) { u.Code[0][at].Reg = n })
			loc := n == 0 || n == 1 && has([]int{load, store, cas, fadd, xchg, await}, at)
			rightIf(t, loc, fmt.Sprint("Loc ", n, " of ", at), func(u *api.Unit) { u.Code[0][at].Loc = n })
			to := n == 0 || n > 0 && n <= done && has([]int{branch, jump}, at)
			rightIf(t, to, fmt.Sprint("To ", n, " of ", at), func(u *api.Unit) { u.Code[0][at].To = n })
		}
	}
	// The registers are those of the thread itself.
	rightIf(t, false, "Reg of v", func(u *api.Unit) { u.Code[2] = []api.Instr{{Op: api.Load, Reg: 1}, {Op: api.Done}} })
	rightIf(t, true, "Reg of v", func(u *api.Unit) { u.Code[2] = []api.Instr{{Op: api.Load}, {Op: api.Done}} })
	rightIf(t, false, "Reg of u", func(u *api.Unit) { u.Code[1] = []api.Instr{{Op: api.Load}, {Op: api.Done}} })
	rightIf(t, false, "To of u", func(u *api.Unit) { u.Code[1] = []api.Instr{{Op: api.Jump, To: 2}, {Op: api.Done}} })
	rightIf(t, true, "To of u", func(u *api.Unit) { u.Code[1] = []api.Instr{{Op: api.Jump, To: 1}, {Op: api.Done}} })
	rightIf(t, false, "no Loc", func(u *api.Unit) {
		u.Init, u.Regs = nil, []int{0}
		u.Code = [][]api.Instr{{{Op: api.Store, E: []api.Op{{Op: api.Num}}}, {Op: api.Done}}}
	})
}

// codes are some code, valid for two own registers, for one, and for none or not at all.
func codes() (two, one, never [][]api.Op) {
	num, reg, add := api.Op{Op: api.Num, N: 9999}, api.Op{Op: api.Reg}, api.Op{Op: api.Add}
	two = [][]api.Op{{{Op: api.Reg, N: 1}}, {num, {Op: api.Reg, N: 1}, add}}
	one = [][]api.Op{{num}, {reg}, {num, {Op: api.Not}}, {num, reg, add}, {reg, reg, num, add, add}}
	never = [][]api.Op{
		nil, {}, {num, num}, {add}, {num, add}, {num, add, num}, {{}}, {num, {}}, {{Op: 15}},
		{{Op: api.Num, N: 10000}}, {{Op: api.Num, N: -1}},
		{{Op: api.Reg, N: 2}}, {{Op: api.Reg, N: -1}}, {{Op: api.Reg, N: math.MinInt}}, {{Op: api.Reg, N: math.MaxInt}},
		{{Op: api.Loc}}, {{Op: api.Loc, N: 1}}, {reg, {Op: api.Loc}, add},
		{{Op: api.Of}}, {{Op: api.Of, N: 1}}, {{Op: api.Of, T: 2}}, {{Op: api.Of}, num, add},
	}
	return two, one, never
}

func TestRightCode(t *testing.T) {
	withE, withF := []int{set, store, cas, fadd, xchg, await, branch}, []int{cas}
	check := func(at int, l []api.Op, right bool) {
		t.Helper()
		e, f := len(l) == 0, len(l) == 0
		if slices.Contains(withE, at) {
			e = right
		}
		if slices.Contains(withF, at) {
			f = right
		}
		rightIf(t, e, fmt.Sprint("E ", l, " of ", at), func(u *api.Unit) { u.Code[0][at].E = l })
		rightIf(t, f, fmt.Sprint("F ", l, " of ", at), func(u *api.Unit) { u.Code[0][at].F = l })
	}
	two, one, never := codes()
	for at := set; at <= done; at++ {
		for _, l := range slices.Concat(two, one) {
			check(at, l, true)
		}
		for _, l := range never {
			check(at, l, false)
		}
	}
	for _, l := range one {
		rightIf(t, true, fmt.Sprint("E ", l, " of v"), func(u *api.Unit) { u.Code[2][0].E = l })
	}
	for _, l := range slices.Concat(two, never) {
		rightIf(t, false, fmt.Sprint("E ", l, " of v"), func(u *api.Unit) { u.Code[2][0].E = l })
	}
}

func TestRightNe(t *testing.T) {
	for at := set; at <= done; at++ {
		rightIf(t, true, fmt.Sprint("not Ne of ", at), func(u *api.Unit) { u.Code[0][at].Ne = false })
		rightIf(t, at == await, fmt.Sprint("Ne of ", at), func(u *api.Unit) { u.Code[0][at].Ne = true })
	}
}

// P7.3: all instructions with small fields, before a Done, against a list of those that are valid.

// text is all that an instruction is.
func text(x api.Instr) string {
	return fmt.Sprint(x.Op, x.Reg, x.Loc, x.To, x.Ne, x.E, x.F)
}

// validOnes are the valid instructions of one register, two locations, and these valid codes.
func validOnes(codes [][]api.Op) map[string]bool {
	all := map[string]bool{}
	add := func(x api.Instr) { all[text(x)] = true }
	add(api.Instr{Op: api.Fence})
	for to := range 2 {
		add(api.Instr{Op: api.Jump, To: to})
	}
	for loc := range 2 {
		add(api.Instr{Op: api.Load, Loc: loc})
	}
	for _, e := range codes {
		add(api.Instr{Op: api.Set, E: e})
		for i := range 2 {
			add(api.Instr{Op: api.Branch, E: e, To: i})
			add(api.Instr{Op: api.Store, Loc: i, E: e})
			add(api.Instr{Op: api.Await, Loc: i, E: e})
			add(api.Instr{Op: api.Await, Loc: i, E: e, Ne: true})
			add(api.Instr{Op: api.Fadd, Loc: i, E: e})
			add(api.Instr{Op: api.Xchg, Loc: i, E: e})
			for _, f := range codes {
				add(api.Instr{Op: api.Cas, Loc: i, E: e, F: f})
			}
		}
	}
	return all
}

func TestRightAgainstAll(t *testing.T) {
	num, reg := []api.Op{{Op: api.Num, N: 1}}, []api.Op{{Op: api.Reg}}
	valid := validOnes([][]api.Op{num, reg})
	codes := [][]api.Op{nil, {}, num, reg, {{Op: api.Reg, N: 1}}, {{Op: api.Loc}}}
	count := 0
	each := func(x api.Instr) {
		u := api.Unit{Mod: 2, Init: []int{0, 1}, Regs: []int{1}, Code: [][]api.Instr{{x, {Op: api.Done}}}}
		got, want := lower.Right(u), valid[text(x)]
		if got != want {
			t.Errorf("%+v: %v", x, got)
		}
		if got && x.E != nil && x.F != nil {
			count++
		}
	}
	for op := -1; op < 25; op++ {
		for reg := -1; reg < 2; reg++ {
			for loc := -1; loc < 3; loc++ {
				for to := -1; to < 3; to++ {
					for _, e := range codes {
						for _, f := range codes {
							each(api.Instr{Op: op, Reg: reg, Loc: loc, To: to, E: e, F: f})
							each(api.Instr{Op: op, Reg: reg, Loc: loc, To: to, E: e, F: f, Ne: true})
						}
					}
				}
			}
		}
	}
	// Cas: 8; with an empty F: Set 2, Branch, Store, Fadd and Xchg 4 each, Await 8; both: Fence 1, Jump 2, Load 2.
	if want := 8 + 2 + 4*4 + 8 + 5; count != want {
		t.Errorf("%d are valid, want %d", count, want)
	}
}

// P7.3: Ends.

func TestEnds(t *testing.T) {
	if l := lower.Ends(example(t)); !slices.Equal(l, []int{done, 0, 1}) {
		t.Error(l)
	}
	if l := lower.Ends(made(t, parsed(t, "mod 2; thread t { }"))); !slices.Equal(l, []int{0}) {
		t.Error(l)
	}
	long := slices.Repeat([]api.Instr{{Op: api.Fence}}, 1000)
	long[999].Op = api.Done
	if l := lower.Ends(api.Unit{Mod: 2, Regs: []int{0, 0, 0, 0}, Code: [][]api.Instr{long, long[999:], long[998:], long[500:]}}); !slices.Equal(l, []int{999, 0, 1, 499}) {
		t.Error(l)
	}
}

// A sequence without instructions has no last one, and a unit without sequences no ends.
func TestEndsOfOthers(t *testing.T) {
	if l := lower.Ends(api.Unit{}); len(l) != 0 {
		t.Error(l)
	}
	u := api.Unit{Code: [][]api.Instr{nil, {{Op: 99}, {Op: 98}}, {}}}
	if l := lower.Ends(u); !slices.Equal(l, []int{-1, 1, -1}) {
		t.Error(l)
	}
}

// R4

func TestRightKeeps(t *testing.T) {
	u := example(t)
	mark := api.Instr{Op: 99}
	for i := range u.Code {
		u.Code[i] = padded(u.Code[i], mark)
		for k := range u.Code[i] {
			x := &u.Code[i][k]
			x.E, x.F = padded(x.E, api.Op{Op: 99}), padded(x.F, api.Op{Op: 98})
		}
	}
	u.Init, u.Regs, u.Code = padded(u.Init, 99), padded(u.Regs, 98), padded(u.Code, []api.Instr{mark})
	all := func() string {
		s := fmt.Sprint(u.Mod, spare(u.Init), spare(u.Regs))
		for _, l := range spare(u.Code) {
			for _, x := range spare(l) {
				s += fmt.Sprint(text(x), spare(x.E), spare(x.F))
			}
		}
		return s
	}
	before := all()
	first := lower.Ends(u)
	clear(spare(first))
	if second := lower.Ends(u); !lower.Right(u) || !slices.Equal(second, []int{done, 0, 1}) {
		t.Error(second)
	}
	if after := all(); after != before {
		t.Errorf("%s, want %s", after, before)
	}
}
