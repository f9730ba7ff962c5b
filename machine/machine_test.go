package machine_test

import (
	"fmt"
	"math"
	"slices"
	"strings"
	"testing"

	"spinnaker/api"
	"spinnaker/conf"
	"spinnaker/lower"
	"spinnaker/machine"
	"spinnaker/prog"
)

var (
	models   = []int{api.SC, api.TSO, api.PSO}
	buffered = []int{api.TSO, api.PSO}
	far      = []int{math.MinInt, -1000, 1000, math.MaxInt} // numbers that are no agent
)

// made is the unit of a program.
func made(t *testing.T, text string) api.Unit {
	t.Helper()
	p, e, at := prog.Parse(text)
	if e != api.OK {
		t.Fatalf("Parse(%q): %d, %d", text, e, at)
	}
	u, e, at := lower.Make(p)
	if e != api.OK {
		t.Fatalf("Make(%q): %d, %d", text, e, at)
	}
	return u
}

// started is the start of a valid unit.
func started(t *testing.T, u api.Unit) api.Conf {
	t.Helper()
	c, e := conf.Start(u)
	if e != api.OK {
		t.Fatalf("Start(%v): %d", u, e)
	}
	return c
}

// written is all that a configuration is, where a nil slice is written as an empty one is.
func written(c api.Conf) string {
	return fmt.Sprint(c)
}

// changed is a copy with some change.
func changed(c api.Conf, change func(d *api.Conf)) api.Conf {
	d := conf.Copy(c)
	change(&d)
	return d
}

// moves fails the test unless the agents of these names, and no others, can act, and returns their
// numbers.
func moves(t *testing.T, u api.Unit, c api.Conf, model, room int, names string) []int {
	t.Helper()
	if !conf.Right(u, c, model, room) {
		t.Fatalf("model %d, room %d: %v is not valid", model, room, c)
	}
	var want []int
	for _, name := range strings.Fields(names) {
		want = append(want, slices.Index(allNames(len(u.Code), len(u.Init), model), name))
	}
	if got := machine.Moves(u, c, model, room); !slices.Equal(got, want) {
		t.Errorf("model %d, room %d: from %v move %v, not %v", model, room, c, got, want)
	}
	agents := len(allNames(len(u.Code), len(u.Init), model))
	for a := -2; a < agents+2; a++ {
		enabled(t, u, c, model, room, a, slices.Contains(want, a))
	}
	for _, a := range far {
		enabled(t, u, c, model, room, a, false)
	}
	return want
}

// enabled fails the test unless an agent can act exactly if want holds, and otherwise leaves all
// as it was.
func enabled(t *testing.T, u api.Unit, c api.Conf, model, room, a int, want bool) {
	t.Helper()
	if got := machine.Enabled(u, c, model, room, a); got != want {
		t.Errorf("model %d, room %d, agent %d at %v: enabled: %v", model, room, a, c, got)
	}
	d, ok := machine.Act(u, c, model, room, a)
	if ok != want || !ok && !conf.Same(d, c) {
		t.Errorf("model %d, room %d, agent %d at %v: %v, %v", model, room, a, c, d, ok)
	}
}

// stage is what can move in a configuration, and which agent then does.
type stage struct{ conf, moves, goes string }

// walk are stages of a program, from its start on.
type walk struct {
	text        string
	model, room int
	stages      []stage
}

// storing and reading threads, whose locations begin with 1 and 2.
const pair = "mod 4; loc x = 1; loc y = 2; thread t { store x = 3; store y = 0; fence; } thread u { reg a; await y == 0; load a = x; }"

func walks() []walk {
	return []walk{
		{"mod 2; thread t { }", api.SC, 1, []stage{{"{[0] [[]] [] [[]]}", "", ""}}},
		{"mod 2; thread t { loop { } }", api.SC, 1, []stage{
			{"{[0] [[]] [] [[]]}", "t0", "t0"},
			{"{[0] [[]] [] [[]]}", "t0", ""},
		}},
		{"mod 2; loc x = 0; thread t { store x = 1; }", api.TSO, 1, []stage{
			{"{[0] [[]] [0] [[]]}", "t0", "t0"},
			{"{[1] [[]] [0] [[{0 1}]]}", "f0", "f0"},
			{"{[1] [[]] [1] [[]]}", "", ""},
		}},
		{pair, api.SC, 1, []stage{
			{"{[0 0] [[] [0]] [1 2] [[] []]}", "t0", "t0"},
			{"{[1 0] [[] [0]] [3 2] [[] []]}", "t0", "t0"},
			{"{[2 0] [[] [0]] [3 0] [[] []]}", "t0 t1", "t1"},
			{"{[2 1] [[] [0]] [3 0] [[] []]}", "t0 t1", "t1"},
			{"{[2 2] [[] [3]] [3 0] [[] []]}", "t0", "t0"},
			{"{[3 2] [[] [3]] [3 0] [[] []]}", "", ""},
		}},
		{pair, api.TSO, 1, []stage{ // the second store waits for the first one
			{"{[0 0] [[] [0]] [1 2] [[] []]}", "t0", "t0"},
			{"{[1 0] [[] [0]] [1 2] [[{0 3}] []]}", "f0", "f0"},
			{"{[1 0] [[] [0]] [3 2] [[] []]}", "t0", "t0"},
			{"{[2 0] [[] [0]] [3 2] [[{1 0}] []]}", "f0", "f0"},
			{"{[2 0] [[] [0]] [3 0] [[] []]}", "t0 t1", "t0"},
			{"{[3 0] [[] [0]] [3 0] [[] []]}", "t1", "t1"},
			{"{[3 1] [[] [0]] [3 0] [[] []]}", "t1", "t1"},
			{"{[3 2] [[] [3]] [3 0] [[] []]}", "", ""},
		}},
		{pair, api.TSO, 4, []stage{ // one queue: x arrives ahead of y
			{"{[0 0] [[] [0]] [1 2] [[] []]}", "t0", "t0"},
			{"{[1 0] [[] [0]] [1 2] [[{0 3}] []]}", "t0 f0", "t0"},
			{"{[2 0] [[] [0]] [1 2] [[{0 3} {1 0}] []]}", "f0", "f0"},
			{"{[2 0] [[] [0]] [3 2] [[{1 0}] []]}", "f0", "f0"},
			{"{[2 0] [[] [0]] [3 0] [[] []]}", "t0 t1", ""},
		}},
		{pair, api.PSO, 1, []stage{ // y arrives ahead of x
			{"{[0 0] [[] [0]] [1 2] [[] []]}", "t0", "t0"},
			{"{[1 0] [[] [0]] [1 2] [[{0 3}] []]}", "t0 f0.0", "t0"},
			{"{[2 0] [[] [0]] [1 2] [[{0 3} {1 0}] []]}", "f0.0 f0.1", "f0.1"},
			{"{[2 0] [[] [0]] [1 0] [[{0 3}] []]}", "t1 f0.0", "t1"},
			{"{[2 1] [[] [0]] [1 0] [[{0 3}] []]}", "t1 f0.0", "t1"},
			{"{[2 2] [[] [1]] [1 0] [[{0 3}] []]}", "f0.0", "f0.0"},
			{"{[2 2] [[] [1]] [3 0] [[] []]}", "t0", "t0"},
			{"{[3 2] [[] [1]] [3 0] [[] []]}", "", ""},
		}},
		{"mod 3; loc x = 0; loc y = 0; thread r { store x = 1; store y = 1; } thread s { store y = 2; store y = 0; } thread t { await x == 2; }", api.PSO, 2, []stage{
			{"{[0 0 0] [[] [] []] [0 0] [[] [] []]}", "t0 t1", "t1"},
			{"{[0 1 0] [[] [] []] [0 0] [[] [{1 2}] []]}", "t0 t1 f1.1", "t1"},
			{"{[0 2 0] [[] [] []] [0 0] [[] [{1 2} {1 0}] []]}", "t0 f1.1", "t0"},
			{"{[1 2 0] [[] [] []] [0 0] [[{0 1}] [{1 2} {1 0}] []]}", "t0 f0.0 f1.1", "t0"},
			{"{[2 2 0] [[] [] []] [0 0] [[{0 1} {1 1}] [{1 2} {1 0}] []]}", "f0.0 f0.1 f1.1", "f0.1"},
			{"{[2 2 0] [[] [] []] [0 1] [[{0 1}] [{1 2} {1 0}] []]}", "f0.0 f1.1", "f1.1"},
			{"{[2 2 0] [[] [] []] [0 2] [[{0 1}] [{1 0}] []]}", "f0.0 f1.1", "f1.1"},
			{"{[2 2 0] [[] [] []] [0 0] [[{0 1}] [] []]}", "f0.0", "f0.0"},
			{"{[2 2 0] [[] [] []] [1 0] [[] [] []]}", "", ""}, // t2 waits
		}},
	}
}

// P11.2 and P11.3: Enabled, Act and Moves.

func TestWalks(t *testing.T) {
	for _, w := range walks() {
		u := made(t, w.text)
		c := started(t, u)
		for _, s := range w.stages {
			if written(c) != s.conf {
				t.Fatalf("%s, model %d, room %d: at %v, not %s", w.text, w.model, w.room, c, s.conf)
			}
			moves(t, u, c, w.model, w.room, s.moves)
			if s.goes == "" {
				continue // the last one
			}
			d, ok := machine.Act(u, c, w.model, w.room, slices.Index(allNames(len(u.Code), len(u.Init), w.model), s.goes))
			if !ok {
				t.Fatalf("%s, model %d, room %d: %s does not go on at %v", w.text, w.model, w.room, s.goes, c)
			}
			c = d
		}
	}
}

// entries are entries of the locations and numbers that follow one another.
func entries(l ...int) []api.Entry {
	var b []api.Entry
	for i := 0; i < len(l); i += 2 {
		b = append(b, api.Entry{Loc: l[i], N: l[i+1]})
	}
	return b
}

// middle is a configuration of three threads of which the first has a register, with three
// locations, in which the threads are at these instructions, and these stores wait.
func middle(pc []int, buf ...[]api.Entry) api.Conf {
	return api.Conf{Pc: pc, Regs: [][]int{{2}, nil, nil}, Mem: []int{1, 2, 3}, Buf: buf}
}

// Each thread and each flushing agent alone, with all buffers empty, some of them, and none.
func TestMoves(t *testing.T) {
	u := made(t, "mod 4; loc x = 1; loc y = 2; loc z = 3; thread s { reg a; load a = y; store z = a; } thread t { fence; store x = 2; } thread u { await z == 0; }")
	none, all := []api.Entry(nil), entries(0, 1, 0, 2, 1, 3, 2, 0)
	for _, c := range []struct {
		model, room int
		c           api.Conf
		moves       string
	}{
		{api.SC, 1, middle([]int{0, 0, 0}, none, none, none), "t0 t1"},
		{api.SC, 4, middle([]int{1, 1, 1}, none, none, none), "t0 t1"},
		{api.SC, 2, middle([]int{2, 1, 0}, none, none, none), "t1"},
		{api.SC, 2, middle([]int{2, 2, 0}, none, none, none), ""},
		{api.SC, 2, middle([]int{2, 2, 1}, none, none, none), ""},
		{api.TSO, 1, middle([]int{0, 0, 0}, none, none, none), "t0 t1"},
		{api.TSO, 1, middle([]int{1, 1, 0}, none, none, none), "t0 t1"},
		{api.TSO, 1, middle([]int{0, 0, 0}, entries(0, 0), entries(1, 0), entries(2, 0)), "t0 t2 f0 f1 f2"},
		{api.TSO, 1, middle([]int{0, 0, 0}, none, entries(2, 0), none), "t0 f1"},
		{api.TSO, 1, middle([]int{2, 2, 1}, none, none, entries(2, 0)), "f2"},
		{api.TSO, 1, middle([]int{1, 1, 1}, entries(0, 0), entries(1, 0), entries(2, 0)), "f0 f1 f2"},
		{api.TSO, 2, middle([]int{1, 1, 1}, entries(0, 0), entries(1, 0), entries(2, 0)), "t0 t1 f0 f1 f2"},
		{api.TSO, 4, middle([]int{1, 1, 0}, all, none, all), "t1 t2 f0 f2"},
		{api.TSO, 4, middle([]int{2, 2, 1}, none, all, none), "f1"},
		{api.PSO, 1, middle([]int{0, 0, 0}, none, none, none), "t0 t1"},
		{api.PSO, 1, middle([]int{1, 1, 0}, entries(0, 0), entries(1, 0), entries(2, 0)), "t0 t1 t2 f0.0 f1.1 f2.2"},
		{api.PSO, 1, middle([]int{1, 1, 0}, entries(2, 0), entries(0, 0), entries(1, 0)), "f0.2 f1.0 f2.1"},
		{api.PSO, 1, middle([]int{2, 2, 1}, entries(0, 0, 2, 0), entries(1, 0, 2, 0), entries(0, 0, 1, 0, 2, 0)), "f0.0 f0.2 f1.1 f1.2 f2.0 f2.1 f2.2"},
		{api.PSO, 2, middle([]int{1, 1, 1}, all, all, all), "t0 f0.0 f0.1 f0.2 f1.0 f1.1 f1.2 f2.0 f2.1 f2.2"},
		{api.PSO, 3, middle([]int{1, 1, 0}, all, all, all), "t0 t1 t2 f0.0 f0.1 f0.2 f1.0 f1.1 f1.2 f2.0 f2.1 f2.2"},
		{api.PSO, 4, middle([]int{2, 2, 1}, none, entries(1, 0, 1, 1, 1, 2, 1, 3), none), "f1.1"},
	} {
		moves(t, u, c.c, c.model, c.room, c.moves)
	}
}

// Each flushing agent flushes what is its own.
func TestActOfFlushers(t *testing.T) {
	u := made(t, "mod 4; loc x = 1; loc y = 2; loc z = 3; thread s { reg a; } thread t { } thread u { }")
	c := middle([]int{0, 0, 0}, entries(0, 0, 0, 2, 2, 1), entries(1, 0), entries(1, 3, 2, 0))
	flushed := func(model int, name string, thread int, rest []api.Entry, loc, n int) {
		t.Helper()
		d, ok := machine.Act(u, c, model, 4, slices.Index(allNames(3, 3, model), name))
		want := changed(c, func(d *api.Conf) { d.Buf[thread], d.Mem[loc] = rest, n })
		if !ok || written(d) != written(want) {
			t.Errorf("model %d, %s: %v, %v", model, name, d, ok)
		}
	}
	flushed(api.TSO, "f0", 0, entries(0, 2, 2, 1), 0, 0)
	flushed(api.TSO, "f1", 1, nil, 1, 0)
	flushed(api.TSO, "f2", 2, entries(2, 0), 1, 3)
	flushed(api.PSO, "f0.0", 0, entries(0, 2, 2, 1), 0, 0)
	flushed(api.PSO, "f0.2", 0, entries(0, 0, 0, 2), 2, 1)
	flushed(api.PSO, "f1.1", 1, nil, 1, 0)
	flushed(api.PSO, "f2.1", 2, entries(2, 0), 1, 3)
	flushed(api.PSO, "f2.2", 2, entries(1, 3), 2, 0)
	moves(t, u, c, api.TSO, 4, "f0 f1 f2")
	moves(t, u, c, api.PSO, 4, "f0.0 f0.2 f1.1 f2.1 f2.2")

	c.Buf[0] = entries(2, 3, 0, 1, 2, 2) // in the order in which they were stored
	flushed(api.TSO, "f0", 0, entries(0, 1, 2, 2), 2, 3)
	moves(t, u, c, api.TSO, 4, "f0 f1 f2")
}

// A unit without locations, and of a model that is none.
func TestMovesOfNoBuffers(t *testing.T) {
	u := made(t, "mod 2; thread t { reg a; set a = 1; } thread u { fence; }")
	c := started(t, u)
	for _, model := range models {
		moves(t, u, c, model, 1, "t0 t1")
	}
	for _, model := range others {
		if got := machine.Moves(u, c, model, 1); len(got) != 0 {
			t.Errorf("model %d: %v", model, got)
		}
		for _, a := range append([]int{-1, 0, 1, 2, 3, 4}, far...) {
			enabled(t, u, c, model, 1, a, false)
		}
	}
}

// P11.3: Dead.

func TestDead(t *testing.T) {
	const program = "mod 4; loc x = 1; loc y = 2; loc z = 3; " +
		"thread s { reg a; await x == 0; store y = 1; } thread t { await x != 1; fence; } thread u { await z == 0; }"
	u := made(t, program)
	full := func(n int) []api.Entry { return slices.Repeat(entries(1, 0), n) }
	for _, c := range []struct {
		pc   []int
		dead bool
	}{
		{[]int{0, 0, 0}, true},
		{[]int{2, 0, 0}, true},
		{[]int{0, 2, 0}, true},
		{[]int{0, 0, 1}, true},
		{[]int{0, 2, 1}, true},
		{[]int{2, 0, 1}, true},
		{[]int{2, 2, 0}, true},
		{[]int{2, 2, 1}, false}, // final
		{[]int{1, 0, 0}, false},
		{[]int{0, 1, 0}, false},
		{[]int{1, 2, 1}, false},
		{[]int{2, 1, 1}, false},
		{[]int{1, 1, 1}, false},
	} {
		for _, model := range models {
			for room := 1; room <= api.MaxRoom; room++ {
				dead(t, u, middle(c.pc, nil, nil, nil), model, room, c.dead)
				if model == api.SC {
					continue
				}
				// While a store can be flushed, nothing is dead.
				for thread := range 3 {
					for _, b := range [][]api.Entry{entries(0, 1), entries(2, 3), full(room)} {
						buf := make([][]api.Entry, 3)
						buf[thread] = b
						dead(t, u, middle(c.pc, buf...), model, room, false)
					}
				}
			}
		}
	}
}

// dead fails the test unless a configuration is dead exactly if want holds.
func dead(t *testing.T, u api.Unit, c api.Conf, model, room int, want bool) {
	t.Helper()
	if !conf.Right(u, c, model, room) {
		t.Fatalf("model %d, room %d: %v is not valid", model, room, c)
	}
	if got := machine.Dead(u, c, model, room); got != want {
		t.Errorf("model %d, room %d, %v: dead: %v", model, room, c, got)
	}
}

// The whole's examples 1 to 3.
func TestDeadInTheWhole(t *testing.T) {
	waits := made(t, "mod 2; loc x = 0; thread t { await x == 1; }")
	spins := made(t, "mod 2; thread t { loop { } }")
	ended := made(t, "mod 2; loc x = 0; thread t { } thread u { }")
	for _, model := range models {
		for room := 1; room <= api.MaxRoom; room++ {
			dead(t, waits, started(t, waits), model, room, true)
			dead(t, spins, started(t, spins), model, room, false)
			dead(t, ended, started(t, ended), model, room, false)
		}
	}
}
