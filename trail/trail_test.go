package trail_test

import (
	"fmt"
	"math"
	"slices"
	"testing"

	"spinnaker/api"
	"spinnaker/conf"
	"spinnaker/edges"
	"spinnaker/explore"
	"spinnaker/lower"
	"spinnaker/machine"
	"spinnaker/prog"
	"spinnaker/trail"
)

var models = []int{api.SC, api.TSO, api.PSO}

// far are numbers that nothing has.
var far = []int{-1, -2, 1 << 32, -1 << 32, math.MinInt, math.MaxInt}

// made is the unit of a program.
func made(t *testing.T, text string) api.Unit {
	t.Helper()
	p, e, at := prog.Parse(text)
	if e != api.OK {
		t.Fatalf("Parse(%q): %d, %d", text, e, at)
	}
	u, e, at := lower.Make(p)
	if e != api.OK {
		t.Fatalf("Make(%q): %d, %d", text, e, at)
	}
	return u
}

// spaceOf is the space of a unit that has few configurations.
func spaceOf(t *testing.T, u api.Unit, model, room int) api.Space {
	t.Helper()
	s, e := explore.All(u, model, room, 3000)
	if e != api.OK {
		t.Fatalf("model %d, room %d: error %d", model, room, e)
	}
	return s
}

// isPath compares a path with the one that it has to be.
func isPath(t *testing.T, got []int, want ...int) {
	t.Helper()
	if !slices.Equal(got, want) {
		t.Errorf("the path is %v, not %v", got, want)
	}
}

const (
	storing = "mod 2; loc x = 0; thread t { store x = 1; store x = 0; }"
	handing = "mod 2; loc x = 0; thread t { reg a; load a = x; } thread u { store x = 1; }"
	both    = "mod 2; loc x = 0; loc y = 0; thread t { reg a; store x = 1; load a = y; } thread u { reg a; store y = 1; load a = x; }"
)

// programs are some in which threads store, wait, are dead, or run for ever.
func programs() []string {
	return []string{
		"mod 2; thread t { }",
		"mod 2; thread t { loop { } }",
		"mod 2; loc x = 0; thread t { await x == 1; } thread u { fence; }",
		"mod 2; loc x = 0; loc y = 0; thread t { await x == 1; store y = 1; } thread u { await y == 1; store x = 1; }",
		"mod 3; loc x = 0; loc y = 0; loc z = 1; thread t { reg a; store x = 1; store y = 2; store x = 2; fence; load a = y; store z = a; }",
		"mod 3; loc x = 0; loc y = 0; thread t { store x = 1; store y = 1; store x = 2; } thread u { reg a; load a = y; await x == a + 1; }",
		"mod 4; loc x = 0; thread t { reg a; fadd a = x, 3; store x = a + 1; fence; } thread u { reg a; cas a = x, 3, 0; if a { xchg a = x, 2; } }",
		"mod 2; loc x = 1; thread t { loop { store x = 0; store x = 1; } } thread u { await x == 0; }",
		"mod 2; loc x = 0; loc y = 0; thread s { store x = 1; store y = 1; } thread t { reg a; load a = y; await x != 0; fence; } thread u { store y = 0; }",
		storing,
		handing,
		both,
	}
}

// eachSpace calls a function with the spaces of all programs, under all models and with some rooms.
func eachSpace(t *testing.T, call func(t *testing.T, u api.Unit, s api.Space, model, room int)) {
	t.Helper()
	for i, text := range programs() {
		u := made(t, text)
		for _, model := range models {
			for _, room := range []int{1, 2, api.MaxRoom} {
				t.Run(fmt.Sprint(i, model, room), func(t *testing.T) { call(t, u, spaceOf(t, u, model, room), model, room) })
			}
		}
	}
}

// The chapter's example 1.
func TestExample(t *testing.T) {
	u := made(t, "mod 2; loc x = 0; thread t { store x = 1; } thread u { await x == 1; }")
	path, e := trail.Parse(u, api.TSO, "t0 f0 t1")
	if e != api.OK {
		t.Errorf("error %d", e)
	}
	isPath(t, path, 0, 2, 1)
	if text := trail.Text(u, api.TSO, path); text != "t0 f0 t1" {
		t.Errorf("its text is %q", text)
	}
	s := spaceOf(t, u, api.TSO, 1)
	isPath(t, trail.To(s, 3), 0, 2, 1)
	if c, n, e := trail.Replay(u, api.TSO, 1, path); e != api.OK || n != 3 || !conf.Same(c, s.Confs[3]) {
		t.Errorf("replayed: %v, %d, %d", c, n, e)
	}
}

// P16.1: To.

func TestTo(t *testing.T) {
	for _, x := range []struct {
		text        string
		model, room int
		paths       [][]int
	}{
		{"mod 2; thread t { }", api.SC, 1, [][]int{nil}},
		{"mod 2; thread t { loop { } }", api.TSO, 1, [][]int{nil}},
		{storing, api.SC, 1, [][]int{nil, {0}, {0, 0}}},
		{storing, api.TSO, 1, [][]int{nil, {0}, {0, 1}, {0, 1, 0}, {0, 1, 0, 1}}},
		{storing, api.TSO, 2, [][]int{nil, {0}, {0, 0}, {0, 1}, {0, 0, 1}, {0, 0, 1, 1}}},
		{storing, api.PSO, 2, [][]int{nil, {0}, {0, 0}, {0, 1}, {0, 0, 1}, {0, 0, 1, 1}}},
		{handing, api.SC, 1, [][]int{nil, {0}, {1}, {0, 1}, {1, 0}}},
		{handing, api.TSO, 1, [][]int{nil, {0}, {1}, {0, 1}, {1, 3}, {0, 1, 3}, {1, 3, 0}}},
		{both, api.SC, 1, [][]int{
			nil, {0}, {1}, {0, 0}, {0, 1}, {1, 1}, {0, 0, 1}, {0, 1, 0}, {0, 1, 1}, {1, 1, 0}, {0, 0, 1, 1}, {0, 1, 0, 1}, {1, 1, 0, 0},
		}},
	} {
		s := spaceOf(t, made(t, x.text), x.model, x.room)
		if len(s.Confs) != len(x.paths) {
			t.Errorf("%s, model %d, room %d: %d configurations", x.text, x.model, x.room, len(s.Confs))
		}
		for i, path := range x.paths {
			isPath(t, trail.To(s, i), path...)
		}
		for _, i := range append([]int{len(x.paths), len(x.paths) + 1}, far...) {
			isPath(t, trail.To(s, i))
		}
	}
	for _, i := range append([]int{0, 1}, far...) {
		isPath(t, trail.To(api.Space{}, i))
	}
}

// The agents are those of By, not other ones by which a configuration can be reached.
func TestToGoesByParents(t *testing.T) {
	s := api.Space{
		Confs:  make([]api.Conf, 6),
		Parent: []int{-1, 0, 0, 1, 3, 1},
		By:     []int{-1, 4, 7, 0, 4, 1 << 40},
	}
	for i, path := range [][]int{nil, {4}, {7}, {4, 0}, {4, 0, 4}, {4, 1 << 40}, nil} {
		isPath(t, trail.To(s, i), path...)
	}
}

// numbersOf calls a function with all lists of at most length of the numbers from low to high.
func numbersOf(length, low, high int, visit func(l []int)) {
	visit(nil)
	last := [][]int{nil}
	for range length {
		var next [][]int
		for _, l := range last {
			for n := low; n <= high; n++ {
				next = append(next, append(slices.Clone(l), n))
				visit(next[len(next)-1])
			}
		}
		last = next
	}
}

// For what is no space nothing is promised, but each call ends: no path goes in a circle.
func TestToEnds(t *testing.T) {
	numbersOf(4, -2, 4, func(parent []int) {
		for by := range 5 {
			s := api.Space{Confs: make([]api.Conf, 4), Parent: parent, By: make([]int, by)}
			for _, i := range append([]int{0, 1, 2, 3, 4}, far...) {
				if path := trail.To(s, i); len(path) > len(parent) {
					t.Fatalf("Parent %v: the path to %d is %v", parent, i, path)
				}
			}
		}
	})
	for _, n := range far {
		isPath(t, trail.To(api.Space{Confs: make([]api.Conf, 2), Parent: []int{n, 0}, By: []int{n, n}}, 1), n)
	}
}

// P16.2: Replay.

// isZero fails the test unless there are this error, and nothing else.
func isZero(t *testing.T, u api.Unit, model, room int, path []int, want api.Errno) {
	t.Helper()
	c, n, e := trail.Replay(u, model, room, path)
	if e != want || n != 0 || len(c.Pc)+len(c.Regs)+len(c.Mem)+len(c.Buf) > 0 {
		t.Errorf("model %d, room %d, path %v: %v, %d, %d, not error %d", model, room, path, c, n, e, want)
	}
}

func TestReplayArguments(t *testing.T) {
	u := made(t, storing)
	for _, path := range [][]int{nil, {0}, {0, 0}, {7}, {-1}} {
		for _, bad := range append([]int{0, 4, 5}, far...) {
			isZero(t, u, bad, 1, path, api.ErrArg)
			isZero(t, u, bad, 0, path, api.ErrArg)
		}
		for _, bad := range append([]int{0, 5, 6}, far...) {
			for _, model := range append([]int{0, 4}, models...) {
				isZero(t, u, model, bad, path, api.ErrArg)
			}
		}
		for _, model := range models {
			for room := 1; room <= api.MaxRoom; room++ {
				if c, _, e := trail.Replay(u, model, room, path); e == api.ErrArg || e == api.ErrForm || len(c.Pc) != 1 {
					t.Errorf("model %d, room %d, path %v: %v, %d", model, room, path, c, e)
				}
			}
		}
	}
}

// wrongs are units that are not valid.
func wrongs() []api.Unit {
	done := []api.Instr{{Op: api.Done}}
	return []api.Unit{
		{},
		{Mod: 2},
		{Mod: 1, Regs: []int{0}, Code: [][]api.Instr{done}},
		{Mod: 17, Regs: []int{0}, Code: [][]api.Instr{done}},
		{Mod: 2, Init: []int{2}, Regs: []int{0}, Code: [][]api.Instr{done}},
		{Mod: 2, Init: make([]int, 7), Regs: []int{0}, Code: [][]api.Instr{done}},
		{Mod: 2, Regs: []int{0, 0}, Code: [][]api.Instr{done}},
		{Mod: 2, Regs: make([]int, 5), Code: [][]api.Instr{done, done, done, done, done}},
		{Mod: 2, Regs: []int{0}, Code: [][]api.Instr{nil}},
		{Mod: 2, Regs: []int{0}, Code: [][]api.Instr{{{Op: api.Fence}}}},
		{Mod: 2, Regs: []int{0}, Code: [][]api.Instr{{{Op: api.Jump, To: 2}, {Op: api.Done}}}},
		{Mod: 2, Regs: []int{0}, Code: [][]api.Instr{{{Op: 99}, {Op: api.Done}}}},
	}
}

// A unit that is not valid is refused ahead of all else.
func TestReplayUnits(t *testing.T) {
	for i, u := range wrongs() {
		if lower.Right(u) {
			t.Fatalf("unit %d is right", i)
		}
		for _, model := range append([]int{0, 4}, models...) {
			for _, room := range []int{0, 1, 4, 5, math.MinInt} {
				for _, path := range [][]int{nil, {0}, {-1}, {0, 0, 0}} {
					isZero(t, u, model, room, path, api.ErrForm)
				}
			}
		}
	}
}

// A store that has no room is where the path ends.
func TestReplayRooms(t *testing.T) {
	u := made(t, "mod 16; loc x = 0; loc y = 5; thread t { store x = 1; store x = 2; store y = 3; store x = 4; store x = 6; }")
	path := []int{0, 0, 0, 0, 0}
	for _, x := range []struct {
		model, room, n int
		pc             int
		buf            string
		mem            string
	}{
		{api.SC, 1, 5, 5, "[]", "[6 3]"},
		{api.TSO, 1, 1, 1, "[{0 1}]", "[0 5]"},
		{api.TSO, 2, 2, 2, "[{0 1} {0 2}]", "[0 5]"},
		{api.TSO, 3, 3, 3, "[{0 1} {0 2} {1 3}]", "[0 5]"},
		{api.TSO, 4, 4, 4, "[{0 1} {0 2} {1 3} {0 4}]", "[0 5]"},
		{api.PSO, 1, 1, 1, "[{0 1}]", "[0 5]"},
		{api.PSO, 2, 3, 3, "[{0 1} {0 2} {1 3}]", "[0 5]"},
		{api.PSO, 3, 4, 4, "[{0 1} {0 2} {0 4} {1 3}]", "[0 5]"},
		{api.PSO, 4, 5, 5, "[{0 1} {0 2} {0 4} {0 6} {1 3}]", "[0 5]"},
	} {
		c, n, e := trail.Replay(u, x.model, x.room, path)
		want := api.ErrState
		if x.n == len(path) {
			want = api.OK
		}
		if e != want || n != x.n || c.Pc[0] != x.pc || fmt.Sprint(c.Buf[0]) != x.buf || fmt.Sprint(c.Mem) != x.mem {
			t.Errorf("model %d, room %d: %v, %d, %d", x.model, x.room, c, n, e)
		}
	}
}

// isReplay compares Replay with the agents acting one by one.
func isReplay(t *testing.T, u api.Unit, model, room int, path []int) {
	t.Helper()
	want, _ := conf.Start(u)
	n, e := len(path), api.OK
	for i, a := range path {
		if !machine.Enabled(u, want, model, room, a) {
			n, e = i, api.ErrState
			break
		}
		want, _ = machine.Act(u, want, model, room, a)
	}
	c, gotN, gotE := trail.Replay(u, model, room, path)
	if gotE != e || gotN != n || !conf.Same(c, want) {
		t.Fatalf("model %d, room %d, path %v: %v, %d, %d, not %v, %d, %d", model, room, path, c, gotN, gotE, want, n, e)
	}
}

// All short paths, also of agents that there are not.
func TestReplayAll(t *testing.T) {
	for _, text := range []string{storing, handing, both, "mod 2; loc x = 0; thread t { reg a; load a = x; await x == 1; } thread u { store x = 1; fence; }"} {
		u := made(t, text)
		for _, model := range models {
			for _, room := range []int{1, 2} {
				numbersOf(4, -1, machine.Agents(u, model), func(path []int) { isReplay(t, u, model, room, path) })
			}
		}
	}
}

func TestReplayOfNoAgents(t *testing.T) {
	eachSpace(t, func(t *testing.T, u api.Unit, s api.Space, model, room int) {
		last := trail.To(s, len(s.Confs)-1)
		for i := range len(last) + 1 {
			for _, a := range append([]int{machine.Agents(u, model)}, far...) {
				path := slices.Insert(slices.Clone(last), i, a)
				c, n, e := trail.Replay(u, model, room, path)
				if want, _, _ := trail.Replay(u, model, room, last[:i]); e != api.ErrState || n != i || !conf.Same(c, want) {
					t.Fatalf("path %v: %v, %d, %d", path, c, n, e)
				}
			}
		}
	})
}

// P16.6: Replay of To leads to the configuration, as Follow does in the graph; and it is the way
// that a search in the graph finds first.
func TestToLeadsThere(t *testing.T) {
	eachSpace(t, func(t *testing.T, u api.Unit, s api.Space, model, room int) {
		in := slices.Repeat([]bool{true}, len(s.Confs))
		for i, c := range s.Confs {
			path := trail.To(s, i)
			if i > 0 && !slices.Equal(path, append(trail.To(s, s.Parent[i]), s.By[i])) {
				t.Errorf("to %d: %v", i, path)
			}
			if got, n, e := trail.Replay(u, model, room, path); e != api.OK || n != len(path) || !conf.Same(got, c) {
				t.Errorf("to %d by %v: %v, %d, %d", i, path, got, n, e)
			}
			if at := trail.Follow(s.G, 0, path); at != i {
				t.Errorf("in the graph, %v leads to %d, not %d", path, at, i)
			}
			if way, ok := trail.Inside(s.G, 0, i, in); !ok || !slices.Equal(way, path) {
				t.Errorf("to %d: by %v in the graph, not %v", i, way, path)
			}
			if back, e := trail.Parse(u, model, trail.Text(u, model, path)); e != api.OK || !slices.Equal(back, path) {
				t.Errorf("%v is parsed as %v, %d", path, back, e)
			}
		}
	})
}

// Where an agent can act, Follow goes where Replay does.
func TestFollowIsReplay(t *testing.T) {
	eachSpace(t, func(t *testing.T, u api.Unit, s api.Space, model, room int) {
		agents := machine.Agents(u, model)
		for i := range s.Confs {
			path := trail.To(s, i)
			for a := range agents {
				next := append(slices.Clone(path), a)
				c, n, e := trail.Replay(u, model, room, next)
				at := trail.Follow(s.G, 0, next)
				if e == api.OK && (n != len(next) || at < 0 || !conf.Same(c, s.Confs[at])) || e != api.OK && (n != len(path) || at != -1 || !conf.Same(c, s.Confs[i])) {
					t.Fatalf("%v: %v, %d, %d, and %d in the graph", next, c, n, e, at)
				}
			}
		}
		if l := edges.All(s.G); len(s.Confs) > 1 && len(l) == 0 {
			t.Error("no edges")
		}
	})
}
