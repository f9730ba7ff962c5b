package conf_test

import (
	"fmt"
	"math"
	"slices"
	"strings"
	"testing"

	"spinnaker/api"
	"spinnaker/conf"
	"spinnaker/lower"
	"spinnaker/prog"
)

var (
	models = []int{api.SC, api.TSO, api.PSO}
	others = []int{0, 4, 5, -1, -api.TSO, -api.PSO, math.MinInt, math.MaxInt} // models that there are not
	far    = []int{-2, math.MinInt, 1000, math.MaxInt}                        // numbers that are no index
)

// made is the unit of a program.
func made(t *testing.T, text string) api.Unit {
	t.Helper()
	p, e, at := prog.Parse(text)
	if e != api.OK {
		t.Fatalf("Parse(%q): %d, %d", text, e, at)
	}
	u, e, at := lower.Make(p)
	if e != api.OK {
		t.Fatalf("Make(%q): %d, %d", text, e, at)
	}
	return u
}

// written is all that a configuration is, where a nil slice is written as an empty one is.
func written(c api.Conf) string {
	return fmt.Sprint(c)
}

// started is the start of a valid unit.
func started(t *testing.T, u api.Unit) api.Conf {
	t.Helper()
	c, e := conf.Start(u)
	if e != api.OK {
		t.Fatalf("Start(%v): %d", u, e)
	}
	return c
}

// example is a unit of three threads, with 4, 1 and 2 instructions, and 2, 0 and 1 registers, and
// of two locations.
func example(t *testing.T) api.Unit {
	t.Helper()
	return made(t, `mod 4; loc x = 3; loc y = 0;
		thread t { reg a, b; fence; load a = x; store y = b; }
		thread u { }
		thread v { reg c; skip; fence; }`)
}

// P9.1: Start.

func TestStart(t *testing.T) {
	for _, c := range []struct{ text, want string }{
		{"mod 2; thread t { }", "{[0] [[]] [] [[]]}"},
		{"mod 2; thread t { reg a; }", "{[0] [[0]] [] [[]]}"},
		{"mod 2; loc x = 1; thread t { }", "{[0] [[]] [1] [[]]}"},
		{"mod 2; loc x = 0; thread t { store x = 1; loop { } }", "{[0] [[]] [0] [[]]}"},
		{"mod 16; loc x = 3; loc y = 0; loc z = 15; thread t { reg a, b; set a = 1; } thread u { } thread v { reg c; }",
			"{[0 0 0] [[0 0] [] [0]] [3 0 15] [[] [] []]}"},
		{"mod 7; loc p = 1; loc q = 2; loc r = 3; loc s = 4; loc t = 5; loc u = 6; " +
			"thread a { reg a, b, c, d, e, f; } thread b { reg a, b, c, d, e, f; } thread c { reg a, b, c, d, e, f; } thread d { reg a, b, c, d, e, f; }",
			"{[0 0 0 0] [[0 0 0 0 0 0] [0 0 0 0 0 0] [0 0 0 0 0 0] [0 0 0 0 0 0]] [1 2 3 4 5 6] [[] [] [] []]}"},
	} {
		if got := written(started(t, made(t, c.text))); got != c.want {
			t.Errorf("%s\n got %s\nwant %s", c.text, got, c.want)
		}
	}
}

// spoils are changes that make the example a unit that is not valid. After most of them its
// configurations still fit in all that they are made of.
func spoils() map[string]func(u *api.Unit) {
	return map[string]func(u *api.Unit){
		"all zero":          func(u *api.Unit) { *u = api.Unit{} },
		"Mod 1":             func(u *api.Unit) { u.Mod, u.Init = 1, []int{0, 0} },
		"one Regs less":     func(u *api.Unit) { u.Regs = u.Regs[:2] },
		"one sequence less": func(u *api.Unit) { u.Code = u.Code[:2] },
		"Mod 17":            func(u *api.Unit) { u.Mod = 17 },
		"Init -1":           func(u *api.Unit) { u.Init[1] = -1 },
		"Init 4":            func(u *api.Unit) { u.Init[0] = 4 },
		"one Regs more":     func(u *api.Unit) { u.Regs = append(u.Regs, 0) },
		"no Done":           func(u *api.Unit) { u.Code[1][0].Op = api.Fence },
		"Done twice":        func(u *api.Unit) { u.Code[2][0].Op = api.Done },
		"no such kind":      func(u *api.Unit) { u.Code[0][0].Op = api.If },
		"no such register":  func(u *api.Unit) { u.Code[0][1].Reg = 2 },
		"no such location":  func(u *api.Unit) { u.Code[0][1].Loc = 2 },
		"no such target":    func(u *api.Unit) { u.Code[0][0] = api.Instr{Op: api.Jump, To: 4} },
		"a target too many": func(u *api.Unit) { u.Code[0][0].To = 1 },
		"no expression":     func(u *api.Unit) { u.Code[0][2].E = nil },
		"an Ne too many":    func(u *api.Unit) { u.Code[2][0].Ne = true },
		"1001 instructions": func(u *api.Unit) { u.Code[2] = append(slices.Repeat(u.Code[2][:1], 1000), u.Code[2][1]) },
	}
}

func TestStartOfOthers(t *testing.T) {
	for what, spoil := range spoils() {
		u := example(t)
		spoil(&u)
		if c, e := conf.Start(u); e != api.ErrForm || written(c) != "{[] [] [] []}" {
			t.Errorf("%s: %v, %d", what, c, e)
		}
	}
	for what, u := range map[string]api.Unit{
		"7 locations":       {Mod: 2, Init: make([]int, 7), Regs: []int{0}, Code: [][]api.Instr{{{Op: api.Done}}}},
		"7 registers":       {Mod: 2, Regs: []int{7}, Code: [][]api.Instr{{{Op: api.Done}}}},
		"-1 registers":      {Mod: 2, Regs: []int{-1}, Code: [][]api.Instr{{{Op: api.Done}}}},
		"no threads":        {Mod: 2, Init: []int{1}},
		"5 threads":         {Mod: 2, Regs: make([]int, 5), Code: slices.Repeat([][]api.Instr{{{Op: api.Done}}}, 5)},
		"no instructions":   {Mod: 2, Regs: []int{0}, Code: [][]api.Instr{nil}},
		"MinInt registers":  {Mod: 2, Regs: []int{math.MinInt}, Code: [][]api.Instr{{{Op: api.Done}}}},
		"MaxInt registers":  {Mod: 2, Regs: []int{math.MaxInt}, Code: [][]api.Instr{{{Op: api.Done}}}},
		"no code, but Regs": {Mod: 2, Regs: []int{1}},
	} {
		if c, e := conf.Start(u); e != api.ErrForm || written(c) != "{[] [] [] []}" {
			t.Errorf("%s: %v, %d", what, c, e)
		}
	}
}

// P9.3: Ended.

func TestEnded(t *testing.T) {
	u := example(t)
	dones := []int{3, 0, 1}
	for thread := -1; thread <= 4; thread++ {
		for _, pc := range append([]int{-1, 0, 1, 2, 3, 4, 5}, far...) {
			c := started(t, u)
			want := false
			if thread >= 0 && thread < 3 {
				c.Pc[thread] = pc
				want = pc == dones[thread]
			}
			if got := conf.Ended(u, c, thread); got != want {
				t.Errorf("thread %d at %d: %v", thread, pc, got)
			}
		}
	}
	for _, thread := range append(far, -1, 3, 4) {
		if conf.Ended(u, api.Conf{Pc: dones}, thread) {
			t.Errorf("there is no thread %d", thread)
		}
	}
}

// A Pc for each thread, and the instructions, are all that is asked of.
func TestEndedOfOthers(t *testing.T) {
	end, wait := api.Instr{Op: api.Done}, api.Instr{Op: api.Fence}
	for _, c := range []struct {
		code   [][]api.Instr
		pc     []int
		thread int
		want   bool
	}{
		{nil, nil, 0, false},
		{nil, []int{0}, 0, false},
		{[][]api.Instr{{end}}, nil, 0, false},
		{[][]api.Instr{{end}}, []int{0}, 0, true},
		{[][]api.Instr{{end}}, []int{0, 0}, 1, false},
		{[][]api.Instr{{end}, {end}}, []int{0}, 0, true},
		{[][]api.Instr{{end}, {end}}, []int{0}, 1, false}, // Pc is shorter than Code
		{[][]api.Instr{{end}, {end}}, []int{9, 0}, 1, true},
		{[][]api.Instr{nil, {end}}, []int{0, 0}, 0, false},
		{[][]api.Instr{nil, {end}}, []int{-1, 0}, 0, false},
		{[][]api.Instr{nil, {end}}, []int{0, 0}, 1, true},
		{[][]api.Instr{{wait}}, []int{0}, 0, false},
		{[][]api.Instr{{end, wait}}, []int{0}, 0, true},
		{[][]api.Instr{{end, wait}}, []int{1}, 0, false},
		{[][]api.Instr{{{}, {Op: -api.Done}, {Op: api.Done + 1}, {Op: api.Done, Reg: -1}}}, []int{0}, 0, false},
		{[][]api.Instr{{{}, {Op: -api.Done}, {Op: api.Done + 1}, {Op: api.Done, Reg: -1}}}, []int{1}, 0, false},
		{[][]api.Instr{{{}, {Op: -api.Done}, {Op: api.Done + 1}, {Op: api.Done, Reg: -1}}}, []int{2}, 0, false},
		{[][]api.Instr{{{}, {Op: -api.Done}, {Op: api.Done + 1}, {Op: api.Done, Reg: -1}}}, []int{3}, 0, true},
	} {
		if got := conf.Ended(api.Unit{Code: c.code}, api.Conf{Pc: c.pc}, c.thread); got != c.want {
			t.Errorf("%v, thread %d at %v: %v", c.code, c.thread, c.pc, got)
		}
	}
}

// P9.3: Quiet.

func TestQuiet(t *testing.T) {
	waits := []api.Entry{{}}
	for _, c := range []struct {
		buf  [][]api.Entry
		want bool
	}{
		{nil, true},
		{[][]api.Entry{}, true},
		{[][]api.Entry{nil}, true},
		{[][]api.Entry{{}}, true},
		{[][]api.Entry{nil, {}, nil, {}}, true},
		{[][]api.Entry{make([]api.Entry, 0, 4)}, true},
		{[][]api.Entry{waits}, false},
		{[][]api.Entry{{{Loc: 1, N: 3}, {Loc: 0, N: 2}}}, false},
		{[][]api.Entry{waits, nil, nil}, false},
		{[][]api.Entry{nil, waits, nil}, false},
		{[][]api.Entry{nil, nil, waits}, false},
		{[][]api.Entry{waits, waits, waits}, false},
	} {
		if got := conf.Quiet(api.Conf{Pc: []int{1}, Regs: [][]int{{1}}, Mem: []int{1}, Buf: c.buf}); got != c.want {
			t.Errorf("%v: %v", c.buf, got)
		}
	}
}

// P9.3: Final.

func TestFinal(t *testing.T) {
	u := example(t)
	waits := []api.Entry{{Loc: 1, N: 2}}
	for _, c := range []struct {
		what string
		pc   []int
		buf  [][]api.Entry
		want bool
	}{
		{"all have ended", []int{3, 0, 1}, [][]api.Entry{nil, {}, nil}, true},
		{"the first one has not", []int{2, 0, 1}, make([][]api.Entry, 3), false},
		{"the last one has not", []int{3, 0, 0}, make([][]api.Entry, 3), false},
		{"only the second one has", []int{0, 0, 0}, make([][]api.Entry, 3), false},
		{"one is before its instructions", []int{3, 0, -1}, make([][]api.Entry, 3), false},
		{"one is behind its instructions", []int{3, 1, 1}, make([][]api.Entry, 3), false},
		{"a store of the first one waits", []int{3, 0, 1}, [][]api.Entry{waits, nil, nil}, false},
		{"a store of the second one waits", []int{3, 0, 1}, [][]api.Entry{nil, waits, nil}, false},
		{"a store of the last one waits", []int{3, 0, 1}, [][]api.Entry{nil, nil, waits}, false},
		{"neither", []int{3, 0, 0}, [][]api.Entry{waits, nil, nil}, false},
		{"one Pc is missing", []int{3, 0}, make([][]api.Entry, 3), false},
		{"no Pc", nil, make([][]api.Entry, 3), false},
		{"one Pc more", []int{3, 0, 1, 0}, make([][]api.Entry, 3), true},
		{"no buffers", []int{3, 0, 1}, nil, true},
		{"a store of no thread waits", []int{3, 0, 1}, [][]api.Entry{nil, nil, nil, waits}, false},
	} {
		// What is in Regs and Mem, also where it is not valid, is no matter.
		for _, other := range []api.Conf{{}, {Regs: [][]int{{3, 3}, nil, {3}}, Mem: []int{1, 2}}} {
			other.Pc, other.Buf = c.pc, c.buf
			if got := conf.Final(u, other); got != c.want {
				t.Errorf("%s: %v: %v", c.what, other, got)
			}
		}
	}
}

// There are as many threads as Code has, also in a unit that is not valid.
func TestFinalOfOthers(t *testing.T) {
	end := []api.Instr{{Op: api.Done}}
	for _, c := range []struct {
		u    api.Unit
		c    api.Conf
		want bool
	}{
		{api.Unit{}, api.Conf{}, true},
		{api.Unit{}, api.Conf{Pc: []int{5}}, true},
		{api.Unit{Regs: []int{0, 0}}, api.Conf{}, true},
		{api.Unit{}, api.Conf{Buf: [][]api.Entry{{{}}}}, false},
		{api.Unit{Code: [][]api.Instr{end}}, api.Conf{}, false},
		{api.Unit{Code: [][]api.Instr{end}}, api.Conf{Pc: []int{0}}, true},
		{api.Unit{Regs: []int{1}, Code: [][]api.Instr{end, end}}, api.Conf{Pc: []int{0}}, false},
		{api.Unit{Regs: []int{1}, Code: [][]api.Instr{end, end}}, api.Conf{Pc: []int{0, 0}}, true},
		{api.Unit{Code: [][]api.Instr{end, nil}}, api.Conf{Pc: []int{0, 0}}, false},
	} {
		if got := conf.Final(c.u, c.c); got != c.want {
			t.Errorf("%v, %v: %v", c.u, c.c, got)
		}
	}
}

// Example 1.
func TestWithoutStatements(t *testing.T) {
	for _, threads := range []string{
		"thread t { }",
		"thread t { reg a; }",
		"thread t { } thread u { reg a, b; } thread v { } thread w { }",
		"thread t { skip; skip; }",
	} {
		for _, locs := range []string{"", "loc x = 1; ", "loc x = 1; loc y = 0; "} {
			u := made(t, "mod 2; "+locs+threads)
			if !conf.Final(u, started(t, u)) {
				t.Errorf("%s%s: not final", locs, threads)
			}
			u = made(t, "mod 2; "+locs+strings.Replace(threads, "}", "fence; }", 1))
			if conf.Final(u, started(t, u)) {
				t.Errorf("%s%s: final with a fence", locs, threads)
			}
		}
	}
}
