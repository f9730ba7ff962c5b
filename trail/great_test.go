package trail_test

import (
	"slices"
	"strings"
	"testing"

	"spinnaker/api"
	"spinnaker/conf"
	"spinnaker/lower"
	"spinnaker/trail"
)

// Paths and graphs of the greatest size, and a unit of much code: what is asked of the whole unit or
// of the whole graph must not be asked at each step.

// chain is a space of n configurations in a row, with an edge back to the first one from each, ahead
// of the edge to the next one.
func chain(t *testing.T, n int) api.Space {
	t.Helper()
	s := api.Space{Confs: make([]api.Conf, n)}
	var l []api.Edge
	for i := range n {
		s.Parent, s.By = append(s.Parent, i-1), append(s.By, i%5)
		l = append(l, api.Edge{From: i, Agent: 7, To: 0})
		if i+1 < n {
			l = append(l, api.Edge{From: i, Agent: (i + 1) % 5, To: i + 1})
		}
	}
	s.By[0] = -1
	s.G = built(t, n, l)
	return s
}

func TestGreatChain(t *testing.T) {
	const n = api.MaxStates
	s := chain(t, n)
	in := slices.Repeat([]bool{true}, n)
	path := trail.To(s, n-1)
	if len(path) != n-1 {
		t.Fatalf("a path of %d agents", len(path))
	}
	for i, a := range path {
		if a != (i+1)%5 {
			t.Fatalf("agent %d of the path is %d", i, a)
		}
	}
	if at := trail.Follow(s.G, 0, path); at != n-1 {
		t.Errorf("the path leads to %d", at)
	}
	if way, ok := trail.Inside(s.G, 0, n-1, in); !ok || !slices.Equal(way, path) {
		t.Errorf("%v: a way of %d agents", ok, len(way))
	}
	if way, ok := trail.Inside(s.G, n-1, n-2, in); !ok || !slices.Equal(way[1:], path[:n-2]) || way[0] != 7 {
		t.Errorf("%v: a way of %d agents back", ok, len(way))
	}
	in[n/2] = false
	if way, ok := trail.Inside(s.G, 0, n-1, in); ok || len(way) > 0 {
		t.Errorf("%v: a way of %d agents past a node that is not in", ok, len(way))
	}
}

// A valid graph may have more nodes than edges.Build makes.
func TestGreatGraph(t *testing.T) {
	const n = 3 * api.MaxStates
	g := api.Csr{Start: []int{0}}
	for i := range n - 1 {
		g.Start, g.Agent, g.To = append(g.Start, i+1), append(g.Agent, i), append(g.To, i+1)
	}
	g.Start = append(g.Start, n-1)
	way, ok := trail.Inside(g, 1, n-1, slices.Repeat([]bool{true}, n))
	if !ok || len(way) != n-2 || way[0] != 1 || way[n-3] != n-2 {
		t.Errorf("%v: a way of %d agents", ok, len(way))
	}
	if at := trail.Follow(g, 1, way); at != n-1 {
		t.Errorf("it leads to %d", at)
	}
}

// great is a valid unit of much code, of which thread t goes in a circle.
func great(t *testing.T) api.Unit {
	t.Helper()
	u := made(t, "mod 16; loc x = 3; thread t { reg a; loop { store x = a + 1; fence; } } thread u { reg a; } thread v { reg a; } thread w { reg a; }")
	sum := append([]api.Op{{Op: api.Reg}}, slices.Repeat([]api.Op{{Op: api.Reg}, {Op: api.Add}}, 99)...)
	for i, l := range u.Code {
		u.Code[i] = slices.Insert(l, len(l)-1, slices.Repeat([]api.Instr{{Op: api.Cas, E: sum, F: sum}}, 900)...)
	}
	if !lower.Right(u) {
		t.Fatal("the unit is not right")
	}
	return u
}

func TestGreatUnit(t *testing.T) {
	const times = 100000
	u := great(t)
	path := slices.Repeat([]int{0, 4, 0, 0}, times) // store, flush, fence and jump
	c, n, e := trail.Replay(u, api.TSO, 1, path)
	if want, _ := conf.Start(u); e != api.OK || n != len(path) || c.Pc[0] != 0 || len(c.Buf[0]) > 0 || c.Mem[0] != 1 || !slices.Equal(c.Pc, want.Pc) {
		t.Errorf("%v, %d, %d", c, n, e)
	}
	c, n, e = trail.Replay(u, api.TSO, 1, append(path, 0, 0, 4))
	if e != api.ErrState || n != len(path)+1 || c.Pc[0] != 1 || len(c.Buf[0]) != 1 {
		t.Errorf("%v, %d, %d", c, n, e)
	}
	text := trail.Text(u, api.TSO, path)
	if text != strings.Repeat("t0 f0 t0 t0 ", times)[:12*times-1] {
		t.Errorf("a text of %d bytes", len(text))
	}
	if back, e := trail.Parse(u, api.TSO, text); e != api.OK || !slices.Equal(back, path) {
		t.Errorf("a path of %d agents, %d", len(back), e)
	}
	noPath(t, u, api.TSO, text+" ?")
}
