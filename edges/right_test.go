package edges_test

import (
	"fmt"
	"math"
	"testing"

	"spinnaker/api"
	"spinnaker/edges"
)

// P14.2, and what the other functions return for graphs that are not valid.

// noGraph fails the test unless a graph is not valid, and has nothing.
func noGraph(t *testing.T, g api.Csr) {
	t.Helper()
	if edges.Right(g) || edges.Nodes(g) != 0 || edges.All(g) != nil {
		t.Errorf("%v counts as a graph, or has %d nodes or the edges %v", g, edges.Nodes(g), edges.All(g))
	}
	for i := -1; i <= len(g.Start); i++ {
		if l := edges.Out(g, i); l != nil {
			t.Errorf("%v: %d has the edges %v", g, i, l)
		}
	}
	for _, in := range [][]bool{nil, {true}, {true, true, true, true}} {
		if k := edges.Keep(g, in); k.Start != nil || k.Agent != nil || k.To != nil {
			t.Errorf("%v keeps %v", g, k)
		}
	}
	for _, from := range [][]int{nil, {0}, {-1, 0, 1, 2, 9}} {
		if l := edges.Reach(g, from); l != nil {
			t.Errorf("%v: %v are reached", g, l)
		}
	}
	if b := edges.Back(g); b.Start != nil || b.Agent != nil || b.To != nil {
		t.Errorf("%v is %v the other way round", g, b)
	}
}

func TestNoGraph(t *testing.T) {
	for _, g := range []api.Csr{
		{},
		{Start: []int{}, Agent: []int{}, To: []int{}},
		{Agent: []int{0}, To: []int{0}},
		{Start: []int{1}},
		{Start: []int{-1}},
		{Start: []int{math.MinInt}},
		{Start: []int{math.MaxInt}},
		{Start: []int{1}, Agent: []int{0}, To: []int{0}},
		{Start: []int{0}, Agent: []int{0}, To: []int{0}},
		{Start: []int{1, 1}, Agent: []int{0}, To: []int{0}},
		{Start: []int{-1, 1}, Agent: []int{0}, To: []int{0}},
		{Start: []int{0, 0}, Agent: []int{0}, To: []int{0}},
		{Start: []int{0, 1}},
		{Start: []int{0, 1}, Agent: []int{0}},
		{Start: []int{0, 1}, To: []int{0}},
		{Start: []int{0, 0}, Agent: []int{0}},
		{Start: []int{0, 0}, To: []int{0}},
		{Start: []int{0, 1}, Agent: []int{0, 0}, To: []int{0}},
		{Start: []int{0, 1}, Agent: []int{0}, To: []int{0, 0}},
		{Start: []int{0, 2}, Agent: []int{0, 0}, To: []int{0}},
		{Start: []int{0, 2}, Agent: []int{0}, To: []int{0, 0}},
		{Start: []int{0, 2}, Agent: []int{0}, To: []int{0}},
		{Start: []int{0, 1}, Agent: []int{-1}, To: []int{0}},
		{Start: []int{0, 1}, Agent: []int{math.MinInt}, To: []int{0}},
		{Start: []int{0, 1}, Agent: []int{0}, To: []int{-1}},
		{Start: []int{0, 1}, Agent: []int{0}, To: []int{1}},
		{Start: []int{0, 1}, Agent: []int{0}, To: []int{math.MinInt}},
		{Start: []int{0, 1}, Agent: []int{0}, To: []int{math.MaxInt}},
		{Start: []int{0, 1, 0}},
		{Start: []int{0, 1, 0}, Agent: []int{0}, To: []int{0}},
		{Start: []int{0, 2, 1}, Agent: []int{0}, To: []int{0}},
		{Start: []int{0, 2, 1, 2}, Agent: []int{0, 0}, To: []int{0, 0}},
		{Start: []int{0, -1, 1}, Agent: []int{0}, To: []int{0}},
		{Start: []int{0, math.MinInt, 1}, Agent: []int{0}, To: []int{0}},
		{Start: []int{0, math.MaxInt, 1}, Agent: []int{0}, To: []int{0}},
		{Start: []int{0, 1, 2}, Agent: []int{0, -1}, To: []int{1, 1}},
		{Start: []int{0, 1, 2}, Agent: []int{0, 0}, To: []int{1, 2}},
		{Start: []int{0, 1, 2}, Agent: []int{0, 0}, To: []int{2, 1}},
	} {
		noGraph(t, g)
	}
}

// numbersOf calls a function with all lists of at most length of the numbers from low to high.
func numbersOf(length, low, high int, visit func(l []int)) {
	var walk func(l []int)
	walk = func(l []int) {
		visit(l)
		if len(l) == length {
			return
		}
		for n := low; n <= high; n++ {
			walk(append(l[:len(l):len(l)], n))
		}
	}
	walk(nil)
}

// rightGraphs are all valid graphs of at most so many nodes and edges, with agents up to agent,
// written down: the numbers of edges of the nodes are chosen, and then each edge.
func rightGraphs(nodes, count, agent int) map[string]bool {
	all := map[string]bool{}
	numbersOf(nodes, 0, count, func(degrees []int) {
		start, total := []int{0}, 0
		for _, d := range degrees {
			total += d
			start = append(start, total)
		}
		if total > count {
			return
		}
		numbersOf(total, 0, agent, func(agents []int) {
			numbersOf(total, 0, len(degrees)-1, func(to []int) {
				if len(agents) == total && len(to) == total {
					all[fmt.Sprint(start, agents, to)] = true
				}
			})
		})
	})
	return all
}

// All small graphs, valid or not.
func TestAllGraphs(t *testing.T) {
	valid := rightGraphs(3, 2, 1)
	met := 0
	numbersOf(4, -1, 3, func(start []int) {
		numbersOf(2, -1, 1, func(agents []int) {
			numbersOf(2, -1, 3, func(to []int) {
				g := api.Csr{Start: start, Agent: agents, To: to}
				right := valid[fmt.Sprint(start, agents, to)]
				if edges.Right(g) != right {
					t.Fatalf("Right(%v): %t", g, !right)
				}
				if !right {
					noGraph(t, g)
					return
				}
				met++
				n := len(start) - 1
				if edges.Nodes(g) != n || len(edges.All(g)) != len(to) || len(edges.Reach(g, nil)) != n {
					t.Errorf("%v has %d nodes and the edges %v", g, edges.Nodes(g), edges.All(g))
				}
			})
		})
	})
	if met != len(valid) {
		t.Errorf("%d of %d valid graphs were met", met, len(valid))
	}
}
