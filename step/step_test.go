package step_test

import (
	"fmt"
	"math"
	"testing"

	"spinnaker/api"
	"spinnaker/conf"
	"spinnaker/lower"
	"spinnaker/prog"
	"spinnaker/step"
)

var (
	models   = []int{api.SC, api.TSO, api.PSO}
	buffered = []int{api.TSO, api.PSO}
	far      = []int{math.MinInt, -1000, 1000, math.MaxInt} // numbers that are no index
)

// made is the unit of a program.
func made(t *testing.T, text string) api.Unit {
	t.Helper()
	p, e, at := prog.Parse(text)
	if e != api.OK {
		t.Fatalf("Parse(%q): %d, %d", text, e, at)
	}
	u, e, at := lower.Make(p)
	if e != api.OK {
		t.Fatalf("Make(%q): %d, %d", text, e, at)
	}
	return u
}

// threaded is the unit of a program of three threads, of which number 1 has this body.
func threaded(t *testing.T, body string) api.Unit {
	t.Helper()
	return made(t, "mod 4; loc x = 1; loc y = 2; loc z = 3; "+
		"thread s { reg p; fence; } thread t { reg a, b; "+body+" } thread u { reg q; fence; }")
}

// middle is a configuration of such a unit, in which the threads have these buffers.
func middle(s, t, u []api.Entry) api.Conf {
	return api.Conf{Pc: []int{1, 0, 0}, Regs: [][]int{{2}, {3, 1}, {1}}, Mem: []int{1, 2, 3}, Buf: [][]api.Entry{s, t, u}}
}

// entries are entries of the locations and numbers that follow one another.
func entries(l ...int) []api.Entry {
	var b []api.Entry
	for i := 0; i < len(l); i += 2 {
		b = append(b, api.Entry{Loc: l[i], N: l[i+1]})
	}
	return b
}

// written is all that a configuration is, where a nil slice is written as an empty one is.
func written(c api.Conf) string {
	return fmt.Sprint(c)
}

// valid fails the test unless the configuration is valid.
func valid(t *testing.T, u api.Unit, c api.Conf, model, room int) {
	t.Helper()
	if !conf.Right(u, c, model, room) {
		t.Fatalf("model %d, room %d: %v is not valid", model, room, c)
	}
}

// goes fails the test unless the thread is enabled exactly if ok holds, and its step leads from c
// to want.
func goes(t *testing.T, u api.Unit, c api.Conf, model, room, thread int, want api.Conf, ok bool) {
	t.Helper()
	valid(t, u, c, model, room)
	if got := step.Enabled(u, c, model, room, thread); got != ok {
		t.Errorf("model %d, room %d, thread %d at %v: enabled: %v", model, room, thread, c, got)
	}
	d, got := step.Act(u, c, model, room, thread)
	if got != ok || written(d) != written(want) {
		t.Errorf("model %d, room %d, thread %d at %v\n got %v, %v\nwant %v, %v", model, room, thread, c, d, got, want, ok)
	}
}

// waits fails the test unless the thread is not enabled.
func waits(t *testing.T, u api.Unit, c api.Conf, model, room, thread int) {
	t.Helper()
	goes(t, u, c, model, room, thread, c, false)
}

// changed is a copy with some change.
func changed(c api.Conf, change func(d *api.Conf)) api.Conf {
	d := conf.Copy(c)
	change(&d)
	return d
}

// outcome is what the first instruction of a body makes of thread 1 in the middle of the program:
// its Pc, its registers and the memory, or nothing where the thread is not enabled.
type outcome struct{ body, becomes string }

// check fails the test unless this is so in a configuration where thread 1 is as in the middle.
func (o outcome) check(t *testing.T, c api.Conf, model, room int) {
	t.Helper()
	u := threaded(t, o.body)
	if o.becomes == "" {
		waits(t, u, c, model, room, 1)
		return
	}
	var pc, a, b, x, y, z int
	if _, err := fmt.Sscanf(o.becomes, "%d, %d %d, %d %d %d", &pc, &a, &b, &x, &y, &z); err != nil {
		t.Fatal(o, err)
	}
	goes(t, u, c, model, room, 1, changed(c, func(d *api.Conf) {
		d.Pc[1], d.Regs[1], d.Mem = pc, []int{a, b}, []int{x, y, z}
	}), true)
}

// alone are outcomes that have nothing to do with locations or buffers.
func alone() []outcome {
	return []outcome{
		{"", ""},
		{"skip;", ""},
		{"set a = 2;", "1, 2 1, 1 2 3"},
		{"set a = 3;", "1, 3 1, 1 2 3"},
		{"set a = 3 * 3 + 2;", "1, 3 1, 1 2 3"},
		{"set b = 0;", "1, 3 0, 1 2 3"},
		{"set b = a;", "1, 3 3, 1 2 3"},
		{"set a = a + b;", "1, 0 1, 1 2 3"},
		{"set a = a + 2; set b = a;", "1, 1 1, 1 2 3"},
		{"set b = b - a;", "1, 3 2, 1 2 3"},
		{"set b = a * a;", "1, 3 1, 1 2 3"},
		{"set b = !(a == 3 && b != 0);", "1, 3 0, 1 2 3"},
		{"loop { }", "0, 3 1, 1 2 3"},
		{"loop { break; }", "2, 3 1, 1 2 3"},
		{"loop { break; fence; fence; }", "4, 3 1, 1 2 3"},
		{"if a { fence; }", "1, 3 1, 1 2 3"},
		{"if a - 1 { fence; }", "1, 3 1, 1 2 3"}, // 2 is not 0
		{"if a - 3 { fence; }", "2, 3 1, 1 2 3"},
		{"if a + b { fence; }", "2, 3 1, 1 2 3"}, // 4 is 0
		{"if a == 2 { fence; } else { set a = 0; }", "3, 3 1, 1 2 3"},
		{"if a == 3 { fence; } else { set a = 0; }", "1, 3 1, 1 2 3"},
		{"while a < b { set a = a + 1; }", "3, 3 1, 1 2 3"},
		{"while b < a { set b = b + 1; }", "1, 3 1, 1 2 3"},
		{"if a == b { }", "1, 3 1, 1 2 3"}, // either way
	}
}

// quiet are outcomes where no store of the thread waits.
func quiet() []outcome {
	return []outcome{
		{"load a = x;", "1, 1 1, 1 2 3"},
		{"load b = y;", "1, 3 2, 1 2 3"},
		{"load a = z; load b = z;", "1, 3 1, 1 2 3"},
		{"load b = z;", "1, 3 3, 1 2 3"},
		{"fence;", "1, 3 1, 1 2 3"},
		{"cas a = x, 1, 2;", "1, 1 1, 2 2 3"},
		{"cas a = x, 2, 2;", "1, 1 1, 1 2 3"},
		{"cas a = x, 0, 2;", "1, 1 1, 1 2 3"},
		{"cas b = x, b, a;", "1, 3 1, 3 2 3"},
		{"cas b = x, a, b;", "1, 3 1, 1 2 3"},
		{"cas a = z, a, a + 2;", "1, 3 1, 1 2 1"},
		{"cas a = x, 1, a;", "1, 1 1, 3 2 3"}, // F is that of the register before the step
		{"cas a = x, a - 2, a - 1;", "1, 1 1, 2 2 3"},
		{"cas a = x, a, 0;", "1, 1 1, 1 2 3"}, // E is 3, though the register becomes 1
		{"cas b = y, b + 1, b;", "1, 3 2, 1 1 3"},
		{"cas a = y, 2, b; fence;", "1, 2 1, 1 1 3"},
		{"cas b = y, 0, 3;", "1, 3 2, 1 2 3"},
		{"cas a = x, 2 + 3, 2 * 2;", "1, 1 1, 0 2 3"}, // 5 is 1, and 4 is 0
		{"fadd a = x, 1;", "1, 1 1, 2 2 3"},
		{"fadd a = x, 0;", "1, 1 1, 1 2 3"},
		{"fadd b = y, 1;", "1, 3 2, 1 3 3"},
		{"fadd b = x, 3;", "1, 3 1, 0 2 3"}, // the sum is Mod
		{"fadd b = y, 3;", "1, 3 2, 1 1 3"}, // it is more
		{"fadd b = z, 3;", "1, 3 3, 1 2 2"},
		{"fadd b = z, 2 * 2;", "1, 3 3, 1 2 3"},
		{"fadd a = x, a;", "1, 1 1, 0 2 3"}, // the value is that of the register before the step
		{"fadd b = y, a + b + b;", "1, 3 2, 1 3 3"},
		{"xchg a = x, 2;", "1, 1 1, 2 2 3"},
		{"xchg a = x, a;", "1, 1 1, 3 2 3"},
		{"xchg b = z, a + 1;", "1, 3 3, 1 2 0"},
		{"xchg b = y, 2;", "1, 3 2, 1 2 3"},
		{"await x == 1;", "1, 3 1, 1 2 3"},
		{"await x == 2;", ""},
		{"await x != 1;", ""},
		{"await x != 2;", "1, 3 1, 1 2 3"},
		{"await x == b; set a = 0;", "1, 3 1, 1 2 3"},
		{"await x == a;", ""},
		{"await z != a;", ""},
		{"await z == a + 2 + 2;", "1, 3 1, 1 2 3"},
		{"await y != a - 1;", ""},
		{"await y == 0;", ""},
		{"await y != 0;", "1, 3 1, 1 2 3"},
	}
}

// P10.2 and P10.3: Enabled and Act.

func TestActAlone(t *testing.T) {
	for _, o := range alone() {
		for _, model := range models {
			o.check(t, middle(nil, nil, nil), model, 1)
			o.check(t, middle(nil, nil, nil), model, 4)
		}
		for _, b := range [][]api.Entry{entries(0, 2), entries(0, 1, 1, 3), entries(0, 1, 0, 2, 1, 3, 2, 0)} {
			for _, model := range buffered {
				o.check(t, middle(nil, b, nil), model, len(b))
				o.check(t, middle(b, b, b), model, 4)
			}
		}
	}
}

func TestActQuiet(t *testing.T) {
	for _, o := range quiet() {
		for room := 1; room <= api.MaxRoom; room++ {
			for _, model := range models {
				o.check(t, middle(nil, nil, nil), model, room)
			}
			// Whether a store of another thread waits does not matter.
			for _, model := range buffered {
				o.check(t, middle(entries(0, 0), nil, entries(2, 1)), model, room)
				o.check(t, middle(entries(1, 1), nil, entries(0, 2)), model, room)
			}
		}
	}
}

// While a store of the thread waits, a fence waits, and so do those that change Mem themselves.
func TestActNotDrained(t *testing.T) {
	for _, body := range []string{
		"fence;",
		"cas a = x, 1, 2;", "cas a = x, 0, 2;", "cas a = y, 2, 2;",
		"fadd a = x, 1;", "fadd a = z, 0;",
		"xchg a = x, 1;", "xchg b = y, 3;",
	} {
		u := threaded(t, body)
		for _, b := range [][]api.Entry{entries(0, 1), entries(1, 2), entries(2, 0), entries(0, 2, 0, 3), entries(0, 1, 1, 2, 2, 3)} {
			for _, model := range buffered {
				for room := len(b); room <= api.MaxRoom; room++ {
					waits(t, u, middle(nil, b, nil), model, room, 1)
					waits(t, u, middle(b, b, b), model, room, 1)
				}
			}
		}
	}
}

// Loads and awaits read from the own buffer, and not from those of others.
func TestActReads(t *testing.T) {
	for _, c := range []struct {
		b    []api.Entry
		x, y int
	}{
		{entries(0, 0), 0, 2},
		{entries(0, 1), 1, 2},
		{entries(1, 0), 1, 0},
		{entries(2, 0), 1, 2},
		{entries(0, 2, 0, 3), 3, 2},
		{entries(0, 3, 0, 2), 2, 2},
		{entries(0, 3, 1, 0, 1, 1), 3, 1},
		{entries(0, 0, 0, 2, 1, 3, 2, 1), 2, 3},
	} {
		for _, model := range buffered {
			reads(t, middle(nil, c.b, nil), model, c.x, c.y)
			reads(t, middle(c.b, nil, c.b), model, 1, 2)
			reads(t, middle(c.b, entries(0, 2, 1, 3), c.b), model, 2, 3)
			reads(t, middle(entries(0, 2, 1, 3), c.b, entries(0, 3, 1, 2)), model, c.x, c.y)
		}
	}
	// The last one of its location, wherever it stands.
	reads(t, middle(nil, entries(1, 1, 0, 3, 1, 0, 2, 1), nil), api.TSO, 3, 0)
	reads(t, middle(nil, entries(0, 1, 2, 2, 0, 2, 1, 1), nil), api.TSO, 2, 1)
}

// reads fails the test unless loads and awaits of thread 1 read these numbers from x and y.
func reads(t *testing.T, c api.Conf, model, x, y int) {
	t.Helper()
	for loc, number := range map[string]int{"x": x, "y": y} {
		goes(t, threaded(t, "load b = "+loc+";"), c, model, 4, 1, changed(c, func(d *api.Conf) { d.Pc[1], d.Regs[1][1] = 1, number }), true)
		passed := changed(c, func(d *api.Conf) { d.Pc[1] = 1 })
		for n := range 4 {
			is, isNot := threaded(t, fmt.Sprintf("await %s == %d;", loc, n)), threaded(t, fmt.Sprintf("await %s != %d;", loc, n))
			if n != number {
				is, isNot = isNot, is
			}
			goes(t, is, c, model, 4, 1, passed, true)
			waits(t, isNot, c, model, 4, 1)
		}
	}
}

func TestActOfNoThread(t *testing.T) {
	for _, model := range models {
		for _, thread := range append([]int{-2, -1, 3, 4, 5}, far...) {
			waits(t, threaded(t, "set a = 0;"), middle(nil, nil, nil), model, 1, thread)
		}
		for _, thread := range append([]int{-1, 1, 2}, far...) {
			c := api.Conf{Pc: []int{0}, Regs: [][]int{nil}, Mem: []int{1, 1}, Buf: make([][]api.Entry, 1)}
			waits(t, made(t, "mod 2; loc x = 0; loc y = 1; thread t { loop { } }"), c, model, 1, thread)
		}
	}
}

// Each thread does what is at its own Pc.
func TestActOfEach(t *testing.T) {
	u := made(t, `mod 16; loc x = 15; loc y = 0;
		thread p { reg a; set a = 7; load a = x; }
		thread q { }
		thread r { reg a, b; fence; fence; store y = b + 9; }
		thread s { reg a, b, c; await y == 1; xchg c = x, c + 4; fadd c = x, 10; }`)
	for _, model := range models {
		c := api.Conf{Pc: []int{1, 0, 2, 2}, Regs: [][]int{{1}, nil, {2, 3}, {4, 5, 6}}, Mem: []int{15, 0}, Buf: make([][]api.Entry, 4)}
		goes(t, u, c, model, 1, 0, changed(c, func(d *api.Conf) { d.Pc[0], d.Regs[0][0] = 2, 15 }), true)
		waits(t, u, c, model, 1, 1)
		goes(t, u, c, model, 1, 2, changed(c, func(d *api.Conf) {
			d.Pc[2] = 3
			if model == api.SC {
				d.Mem[1] = 12
			} else {
				d.Buf[2] = entries(1, 12)
			}
		}), true)
		goes(t, u, c, model, 1, 3, changed(c, func(d *api.Conf) { d.Pc[3], d.Regs[3][2], d.Mem[0] = 3, 15, 9 }), true)

		c.Pc = []int{2, 0, 3, 1}
		waits(t, u, c, model, 1, 0)
		waits(t, u, c, model, 1, 2)
		goes(t, u, c, model, 1, 3, changed(c, func(d *api.Conf) { d.Pc[3], d.Regs[3][2], d.Mem[0] = 2, 15, 10 }), true)
		c.Pc = []int{0, 0, 0, 0}
		goes(t, u, c, model, 1, 0, changed(c, func(d *api.Conf) { d.Pc[0], d.Regs[0][0] = 1, 7 }), true)
		waits(t, u, c, model, 1, 3)
	}
}

// Jumps, in a unit that no program has.
func TestActJump(t *testing.T) {
	num := func(n int) []api.Op { return []api.Op{{Op: api.Num, N: n}} }
	u := api.Unit{Mod: 2, Regs: []int{0}, Code: [][]api.Instr{{
		{Op: api.Jump, To: 3},
		{Op: api.Jump, To: 1}, // to itself
		{Op: api.Jump, To: 0},
		{Op: api.Branch, E: num(2), To: 1}, // 2 is 0
		{Op: api.Branch, E: num(3), To: 1}, // 3 is 1
		{Op: api.Branch, E: num(0), To: 6},
		{Op: api.Done},
	}}}
	at := func(pc int) api.Conf { return api.Conf{Pc: []int{pc}, Regs: [][]int{nil}, Buf: [][]api.Entry{nil}} }
	for _, model := range models {
		for pc, to := range []int{3, 1, 0, 1, 5, 6} {
			goes(t, u, at(pc), model, 2, 0, at(to), true)
		}
		waits(t, u, at(6), model, 2, 0)
	}
}
