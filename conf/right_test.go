package conf_test

import (
	"fmt"
	"math"
	"slices"
	"testing"

	"spinnaker/api"
	"spinnaker/conf"
)

// P9.2: Right.

// rightIf fails the test unless the configuration is valid exactly if want holds.
func rightIf(t *testing.T, want bool, u api.Unit, c api.Conf, model, room int) {
	t.Helper()
	if got := conf.Right(u, c, model, room); got != want {
		t.Errorf("%v, model %d, room %d: %v", c, model, room, got)
	}
}

// rightEach fails the test unless the configuration, in which no store waits, is valid for each
// model and room exactly if want holds.
func rightEach(t *testing.T, want bool, u api.Unit, c api.Conf) {
	t.Helper()
	for _, model := range models {
		for room := 1; room <= api.MaxRoom; room++ {
			rightIf(t, want, u, c, model, room)
		}
	}
}

// middle is a valid configuration of the example, in which no store waits.
func middle() api.Conf {
	return api.Conf{Pc: []int{2, 0, 1}, Regs: [][]int{{3, 0}, nil, {2}}, Mem: []int{1, 3}, Buf: make([][]api.Entry, 3)}
}

func TestRight(t *testing.T) {
	u := example(t)
	rightEach(t, true, u, middle())
	rightEach(t, true, u, started(t, u))
	rightEach(t, false, u, api.Conf{})
	for _, text := range []string{
		"mod 2; thread t { }",
		"mod 3; loc x = 2; thread t { reg a, b; load b = x; }",
		"mod 16; loc x = 15; loc y = 7; thread t { reg a; loop { store x = a; } } thread u { reg a, b, c, d, e, f; await y != c; }",
	} {
		one := made(t, text)
		rightEach(t, true, one, started(t, one))
		rightEach(t, false, one, middle())
		rightEach(t, false, u, started(t, one))
	}
}

func TestRightPc(t *testing.T) {
	u := example(t)
	for thread, length := range []int{4, 1, 2} {
		for _, pc := range append([]int{-1, 0, 1, 2, 3, 4, 5}, far...) {
			c := middle()
			c.Pc[thread] = pc
			rightEach(t, pc >= 0 && pc < length, u, c)
		}
	}
}

func TestRightNumbers(t *testing.T) {
	for _, mod := range []int{2, 3, 4, 15, 16} {
		u := example(t)
		u.Mod, u.Init = mod, []int{1, 0}
		for _, n := range append([]int{-1, 0, 1, 2, 3, 4, mod - 1, mod, mod + 1}, far...) {
			want := n >= 0 && n < mod
			for _, put := range []func(c *api.Conf){
				func(c *api.Conf) { c.Regs[0][0] = n },
				func(c *api.Conf) { c.Regs[0][1] = n },
				func(c *api.Conf) { c.Regs[2][0] = n },
				func(c *api.Conf) { c.Mem[0] = n },
				func(c *api.Conf) { c.Mem[1] = n },
			} {
				c := api.Conf{Pc: []int{2, 0, 1}, Regs: [][]int{{1, 0}, nil, {1}}, Mem: []int{1, 1}, Buf: make([][]api.Entry, 3)}
				put(&c)
				rightEach(t, want, u, c)
			}
			c := api.Conf{Pc: []int{2, 0, 1}, Regs: [][]int{{1, 0}, nil, {1}}, Mem: []int{1, 1}, Buf: [][]api.Entry{nil, nil, {{Loc: 1, N: n}}}}
			rightIf(t, want, u, c, api.TSO, 1)
			rightIf(t, want, u, c, api.PSO, 1)
			rightIf(t, false, u, c, api.SC, 1)
		}
	}
}

func TestRightCounts(t *testing.T) {
	u := example(t)
	for n := range 9 {
		for thread, regs := range []int{2, 0, 1} {
			c := middle()
			c.Regs[thread] = make([]int, n)
			rightEach(t, n == regs, u, c)
		}
		c := middle()
		c.Mem = make([]int, n)
		rightEach(t, n == 2, u, c)
		// What there is, is valid.
		c = middle()
		c.Pc = append(c.Pc, 0, 0, 0, 0, 0, 0)[:n]
		rightEach(t, n == 3, u, c)
		c = middle()
		c.Regs = append(c.Regs, nil, nil, nil, nil, nil, nil)[:n]
		rightEach(t, n == 3, u, c)
		c = middle()
		c.Buf = make([][]api.Entry, n)
		rightEach(t, n == 3, u, c)
		// All for other threads than the unit has.
		c = middle()
		c.Pc, c.Regs, c.Buf = append(c.Pc, make([]int, 6)...)[:n], append(c.Regs, make([][]int, 6)...)[:n], make([][]api.Entry, n)
		rightEach(t, n == 3, u, c)
	}
	for _, c := range []api.Conf{
		{Pc: []int{0, 0, 0}, Regs: [][]int{nil, {0, 0}, {0}}, Mem: []int{0, 0}, Buf: make([][]api.Entry, 3)}, // in another order
		{Pc: []int{0, 0, 0}, Regs: [][]int{{0}, nil, {0, 0}}, Mem: []int{0, 0}, Buf: make([][]api.Entry, 3)},
		{Pc: []int{0, 0, 0}, Regs: nil, Mem: []int{0, 0}, Buf: make([][]api.Entry, 3)},
		{Pc: nil, Regs: [][]int{{0, 0}, nil, {0}}, Mem: []int{0, 0}, Buf: make([][]api.Entry, 3)},
		{Pc: []int{0, 0, 0}, Regs: [][]int{{0, 0}, nil, {0}}, Mem: nil, Buf: make([][]api.Entry, 3)},
		{Pc: []int{0, 0, 0}, Regs: [][]int{{0, 0}, nil, {0}}, Mem: []int{0, 0}, Buf: nil},
	} {
		rightEach(t, false, u, c)
	}
}

// entries are entries of the locations and numbers that follow one another.
func entries(l ...int) []api.Entry {
	var b []api.Entry
	for i := 0; i < len(l); i += 2 {
		b = append(b, api.Entry{Loc: l[i], N: l[i+1]})
	}
	return b
}

func TestRightBuffers(t *testing.T) {
	u := example(t)
	const never = api.MaxRoom + 1
	for _, c := range []struct {
		b        []api.Entry
		tso, pso int // the least room
	}{
		{nil, 1, 1},
		{entries(), 1, 1},
		{entries(0, 0), 1, 1},
		{entries(1, 3), 1, 1},
		{entries(0, 1, 1, 2), 2, 1},
		{entries(1, 2, 0, 1), 2, never},
		{entries(0, 1, 0, 1), 2, 2},
		{entries(0, 1, 1, 2, 0, 1), 3, never},
		{entries(0, 1, 0, 2, 1, 3), 3, 2},
		{entries(1, 1, 1, 1, 1, 1, 1, 1), 4, 4},
		{entries(0, 1, 1, 1, 0, 1, 1, 1), 4, never},
		{entries(0, 0, 0, 1, 1, 2, 1, 3), 4, 2},
		{entries(0, 0, 0, 1, 0, 2, 0, 3, 0, 0), never, never},
		{entries(0, 0, 0, 1, 0, 2, 0, 3, 1, 0, 1, 1, 1, 2, 1, 3), never, 4},
		{entries(2, 0), never, never},
		{entries(-1, 0), never, never},
		{entries(0, 4), never, never},
		{entries(0, -1), never, never},
		{entries(0, 0, 1, 4), never, never},
		{entries(math.MaxInt, 0), never, never},
		{entries(0, math.MinInt), never, never},
	} {
		for thread := range 3 {
			m := middle()
			m.Buf[thread] = c.b
			for _, room := range []int{-1, 0, 1, 2, 3, 4, 5, 6, math.MinInt, math.MaxInt} {
				may := room >= 1 && room <= api.MaxRoom
				rightIf(t, may && len(c.b) == 0, u, m, api.SC, room)
				rightIf(t, may && room >= c.tso, u, m, api.TSO, room)
				rightIf(t, may && room >= c.pso, u, m, api.PSO, room)
				for _, model := range others {
					rightIf(t, false, u, m, model, room)
				}
			}
		}
	}
}

// Buffers of all threads at once: full ones, with some room, and one that is not valid.
func TestRightAllBuffers(t *testing.T) {
	u := example(t)
	for _, c := range []struct {
		bufs     [][]api.Entry
		tso, pso bool // with a room of 2
	}{
		{[][]api.Entry{entries(0, 1, 1, 2), entries(1, 0, 1, 0), entries(0, 3, 0, 2)}, true, true},
		{[][]api.Entry{entries(1, 2, 0, 1), entries(1, 0), entries(0, 3)}, true, false},
		{[][]api.Entry{entries(0, 1), entries(1, 0), entries(1, 2, 0, 3)}, true, false},
		{[][]api.Entry{entries(0, 1, 0, 2, 1, 1, 1, 0), nil, entries(0, 1, 1, 3, 1, 0)}, false, true},
		{[][]api.Entry{entries(0, 1), entries(0, 1, 0, 2, 0, 3), entries(1, 1)}, false, false},
		{[][]api.Entry{entries(0, 1), nil, entries(2, 1)}, false, false},
	} {
		m := middle()
		m.Buf = c.bufs
		rightIf(t, c.tso, u, m, api.TSO, 2)
		rightIf(t, c.pso, u, m, api.PSO, 2)
		rightIf(t, false, u, m, api.SC, 2)
	}
}

// A unit without locations has no store that could wait.
func TestRightWithoutLocations(t *testing.T) {
	u := made(t, "mod 4; thread t { reg a; set a = 3; }")
	c := api.Conf{Pc: []int{1}, Regs: [][]int{{3}}, Buf: [][]api.Entry{nil}}
	rightEach(t, true, u, c)
	c.Mem = []int{0}
	rightEach(t, false, u, c)
	c.Mem, c.Buf[0] = nil, entries(0, 0)
	rightEach(t, false, u, c)
}

// No configuration is valid for a unit that is not, however it fits.
func TestRightUnits(t *testing.T) {
	for what, spoil := range spoils() {
		u := example(t)
		c := started(t, u)
		rightEach(t, true, u, c)
		spoil(&u)
		for _, model := range models {
			if conf.Right(u, c, model, 1) || conf.Right(u, api.Conf{}, model, 1) {
				t.Errorf("%s: valid for model %d", what, model)
			}
		}
	}
	u := api.Unit{Mod: 2, Init: make([]int, 7), Regs: []int{7}, Code: [][]api.Instr{{{Op: api.Done}}}}
	rightEach(t, false, u, api.Conf{Pc: []int{0}, Regs: [][]int{make([]int, 7)}, Mem: make([]int, 7), Buf: make([][]api.Entry, 1)})
	rightEach(t, false, api.Unit{Mod: 2, Init: []int{0}}, api.Conf{Mem: []int{0}})
	rightEach(t, false, api.Unit{Mod: 2}, api.Conf{})
}

// P9.2 for all small configurations, against those that are valid, put together from valid parts.

// lists are all lists of at most length of these elements.
func lists[T any](length int, elements ...T) [][]T {
	all := [][]T{nil}
	for i := 0; i < len(all); i++ { // all grows meanwhile
		for _, x := range elements {
			if len(all[i]) < length {
				all = append(all, append(slices.Clone(all[i]), x))
			}
		}
	}
	return all
}

// parts are what the configurations of a unit can be made of.
type parts struct {
	pc   [][]int
	regs [][][]int
	mem  [][]int
	buf  [][][]api.Entry
}

// each passes on all configurations of these parts.
func (p parts) each(f func(c api.Conf)) {
	for _, pc := range p.pc {
		for _, regs := range p.regs {
			for _, mem := range p.mem {
				for _, buf := range p.buf {
					f(api.Conf{Pc: pc, Regs: regs, Mem: mem, Buf: buf})
				}
			}
		}
	}
}

// instead are these parts, each of them in turn replaced by those of the other ones.
func (p parts) instead(o parts) []parts {
	return []parts{
		{o.pc, p.regs, p.mem, p.buf},
		{p.pc, o.regs, p.mem, p.buf},
		{p.pc, p.regs, o.mem, p.buf},
		{p.pc, p.regs, p.mem, o.buf},
	}
}

// validBuffers are those of one location and numbers below 2, for a room of 2.
func validBuffers(model int) [][]api.Entry {
	if model == api.SC {
		return [][]api.Entry{nil}
	}
	return lists(2, api.Entry{}, api.Entry{N: 1})
}

func TestRightAll(t *testing.T) {
	u := api.Unit{Mod: 2, Init: []int{1}, Regs: []int{1, 0}, Code: [][]api.Instr{{{Op: api.Fence}, {Op: api.Done}}, {{Op: api.Done}}}}
	some := [][]api.Entry{nil, entries(0, 0), entries(0, 1, 0, 0), entries(1, 0), entries(-1, 0), entries(0, 2), entries(0, -1), entries(0, 1, 0, 0, 0, 1)}
	all := parts{
		pc:   lists(3, -1, 0, 1, 2),
		regs: lists(3, lists(2, -1, 0, 1, 2)...),
		mem:  lists(3, -1, 0, 1, 2),
		buf:  append(lists(3, some...), lists(2, lists(3, api.Entry{}, api.Entry{N: 1})...)...),
	}
	for _, model := range models {
		valid := parts{pc: [][]int{{0, 0}, {1, 0}}, regs: [][][]int{{{0}, nil}, {{1}, nil}}, mem: [][]int{{0}, {1}}}
		for _, first := range validBuffers(model) {
			for _, second := range validBuffers(model) {
				valid.buf = append(valid.buf, [][]api.Entry{first, second})
			}
		}
		known := map[string]int{}
		valid.each(func(c api.Conf) {
			known[written(c)] = 0
			rightIf(t, true, u, c, model, 2)
		})
		short := valid
		short.buf = short.buf[:1] // enough where another part is not valid
		for i, p := range short.instead(all) {
			p.each(func(c api.Conf) {
				if !conf.Right(u, c, model, 2) {
					return
				}
				if _, ok := known[written(c)]; !ok {
					t.Fatalf("%v is valid for model %d", c, model)
				}
				known[written(c)] |= 1 << i
			})
		}
		for c, met := range known {
			if met&(1<<3) == 0 {
				t.Fatal(fmt.Sprint(c, " was not tried"))
			}
		}
	}
}
