package trail_test

import (
	"fmt"
	"math"
	"math/rand/v2"
	"slices"
	"testing"

	"spinnaker/api"
	"spinnaker/edges"
	"spinnaker/trail"
)

// P16.3 and P16.4: Follow and Inside, also against ways of another make.

// list is edges of three numbers each: From, Agent and To.
func list(numbers ...int) []api.Edge {
	var l []api.Edge
	for i := 0; i < len(numbers); i += 3 {
		l = append(l, api.Edge{From: numbers[i], Agent: numbers[i+1], To: numbers[i+2]})
	}
	return l
}

// built is the graph that edges.Build returns, which has to be one.
func built(t *testing.T, n int, l []api.Edge) api.Csr {
	t.Helper()
	g, e := edges.Build(n, l)
	if e != api.OK {
		t.Fatalf("Build(%d, %v): %d", n, l, e)
	}
	return g
}

// several is a graph with a node without edges (2), edges of a node to itself, and two between the
// same nodes, by the same and by different agents.
func several(t *testing.T) api.Csr {
	t.Helper()
	return built(t, 5, list(3, 0, 1, 0, 1, 3, 3, 2, 0, 1, 3, 1, 4, 1, 0, 3, 0, 2, 1, 0, 1, 0, 0, 3, 1, 3, 2))
}

// crooked are graphs that are not valid, which would have some of their edges.
func crooked() []api.Csr {
	return []api.Csr{
		{},
		{Start: []int{}},
		{Start: []int{0, 1}},
		{Start: []int{1, 1}, Agent: []int{0}, To: []int{0}},
		{Start: []int{0, 1}, Agent: []int{0}, To: []int{0, 0}},
		{Start: []int{0, 1}, Agent: []int{0, 0}, To: []int{0}},
		{Start: []int{0, 1}, Agent: []int{-1}, To: []int{0}},
		{Start: []int{0, 1}, Agent: []int{0}, To: []int{1}},
		{Start: []int{0, 1}, Agent: []int{0}, To: []int{-1}},
		{Start: []int{0, 1, 0, 1}, Agent: []int{0}, To: []int{0}},
		{Start: []int{0, 1, 2}, Agent: []int{0, 0}, To: []int{1, 2}},
		{Start: []int{0, 1, 3}, Agent: []int{0, 0}, To: []int{1, 0}},
	}
}

// leads fails the test unless a path leads from a node to another one, which is -1 if it does not.
func leads(t *testing.T, g api.Csr, from, to int, path ...int) {
	t.Helper()
	if got := trail.Follow(g, from, path); got != to {
		t.Errorf("from %d, %v leads to %d, not %d", from, path, got, to)
	}
}

func TestFollow(t *testing.T) {
	g := several(t)
	for i := range 5 {
		leads(t, g, i, i)
	}
	leads(t, g, 0, 3, 1)
	leads(t, g, 0, 3, 0)
	leads(t, g, 0, 1, 0, 0) // the first edge of 3 by 0, not the other one
	leads(t, g, 3, 1, 0)
	leads(t, g, 3, 0, 2)
	leads(t, g, 1, 1, 3, 3, 3, 0, 3)
	leads(t, g, 4, 1, 1, 1, 2, 0, 0, 0)
	leads(t, g, 4, -1, 0)
	leads(t, g, 2, -1, 0)
	leads(t, g, 0, -1, 2)
	leads(t, g, 0, -1, 1, 1)
	leads(t, g, 0, -1, 1, 1, 0)
	leads(t, g, 0, -1, 1, 2, 3, 1)
	for _, a := range far {
		leads(t, g, 0, -1, a)
		leads(t, g, 0, -1, 1, a)
	}
	for _, from := range append([]int{5, 6, 9}, far...) {
		leads(t, g, from, -1)
		leads(t, g, from, -1, 0)
		leads(t, built(t, 0, nil), from, -1)
	}
	leads(t, built(t, 0, nil), 0, -1)
	leads(t, built(t, 1, nil), 0, 0)
	leads(t, built(t, 1, nil), 0, -1, 0)
	leads(t, built(t, 1, list(0, math.MaxInt, 0)), 0, 0, math.MaxInt, math.MaxInt)
	for _, g := range crooked() {
		for from := -1; from < 4; from++ {
			leads(t, g, from, -1)
			leads(t, g, from, -1, 0)
			leads(t, g, from, -1, 0, 0)
		}
	}
}

// followed is where a path leads, by the edges of one node after the other.
func followed(g api.Csr, from int, path []int) int {
	if from < 0 || from >= edges.Nodes(g) {
		return -1
	}
	if len(path) == 0 {
		return from
	}
	for _, e := range edges.Out(g, from) {
		if e.Agent == path[0] {
			return followed(g, e.To, path[1:])
		}
	}
	return -1
}

// way is a way and where it leads.
type way struct {
	path []int
	to   int
}

// inside is the first one of the ways from a node to another one, which are listed by their length
// and then by the places of their edges, whether they go in circles or not.
func inside(g api.Csr, from, to int, isIn func(i int) bool) ([]int, bool) {
	nodes := edges.Nodes(g)
	if from < 0 || from >= nodes || to < 0 || to >= nodes || !isIn(from) || !isIn(to) {
		return nil, false
	}
	ways := []way{{nil, from}}
	for range nodes {
		var longer []way
		for _, w := range ways {
			if w.to == to {
				return w.path, true
			}
			for _, e := range edges.Out(g, w.to) {
				if isIn(e.To) {
					longer = append(longer, way{append(slices.Clone(w.path), e.Agent), e.To})
				}
			}
		}
		ways = longer
	}
	return nil, false
}

// isInside compares Inside with the first one of the ways.
func isInside(t *testing.T, g api.Csr, from, to int, in []bool) {
	t.Helper()
	want, is := inside(g, from, to, func(i int) bool { return i < len(in) && in[i] })
	got, ok := trail.Inside(g, from, to, in)
	if ok != is || !slices.Equal(got, want) {
		t.Fatalf("%v: from %d to %d inside %v: %v, %v, not %v, %v", g, from, to, in, got, ok, want, is)
	}
}

// insideIs fails the test unless there is this way inside the nodes that have a y.
func insideIs(t *testing.T, g api.Csr, from, to int, marks string, want ...int) {
	t.Helper()
	if got, ok := trail.Inside(g, from, to, flags(marks)); !ok || !slices.Equal(got, want) {
		t.Errorf("from %d to %d inside %s: %v, %v, not %v", from, to, marks, got, ok, want)
	}
}

// notInside fails the test if there is a way.
func notInside(t *testing.T, g api.Csr, from, to int, marks string) {
	t.Helper()
	if got, ok := trail.Inside(g, from, to, flags(marks)); ok || len(got) > 0 {
		t.Errorf("from %d to %d inside %s: %v, %v", from, to, marks, got, ok)
	}
}

// flags are the bools that have these marks, y or n.
func flags(marks string) []bool {
	var l []bool
	for _, c := range marks {
		l = append(l, c == 'y')
	}
	return l
}

func TestInside(t *testing.T) {
	g := several(t)
	for i := range 5 {
		insideIs(t, g, i, i, "yyyyy")
		notInside(t, g, i, i, "")
	}
	insideIs(t, g, 0, 3, "yyyyy", 1)
	insideIs(t, g, 0, 1, "yyyyy", 1, 0)
	insideIs(t, g, 3, 2, "yyyyy", 0)
	insideIs(t, g, 1, 2, "yyyyy", 3) // by its third edge
	insideIs(t, g, 4, 1, "yyyyy", 1, 1, 0)
	insideIs(t, g, 4, 2, "yyyyy", 1, 1, 0)
	insideIs(t, g, 3, 3, "nnny")
	insideIs(t, g, 3, 2, "nnyy", 0)
	insideIs(t, g, 0, 3, "ynnyyyy", 1) // in goes beyond the nodes
	notInside(t, g, 0, 1, "yynyy"[:3])
	notInside(t, g, 0, 1, "yynny")
	notInside(t, g, 0, 1, "nyyyy")
	notInside(t, g, 0, 1, "ynyyy")
	notInside(t, g, 2, 0, "yyyyy")
	notInside(t, g, 0, 4, "yyyyy")
	notInside(t, g, 0, 3, "yyy") // in does not go as far as the node
	notInside(t, g, 3, 0, "yyy")
	notInside(t, g, 3, 3, "yyy")
	notInside(t, g, 0, 3, "nnnnn")
	for _, i := range append([]int{5, 6, 7}, far...) {
		for _, marks := range []string{"yyyyy", "yyyyyyyy", ""} {
			notInside(t, g, i, 0, marks)
			notInside(t, g, 0, i, marks)
			notInside(t, g, i, i, marks)
		}
		notInside(t, built(t, 0, nil), i, i, "yy")
	}
	notInside(t, built(t, 0, nil), 0, 0, "yy")
	for _, g := range crooked() {
		for from := -1; from < 4; from++ {
			for to := -1; to < 4; to++ {
				notInside(t, g, from, to, "yyyy")
			}
		}
	}
}

// Of the shortest ways it is the one that the search finds first, not the one with the smallest
// nodes or agents.
func TestInsideFirst(t *testing.T) {
	g := built(t, 6, list(0, 9, 2, 0, 8, 1, 1, 3, 4, 2, 7, 4, 2, 6, 4, 1, 1, 5, 2, 5, 5, 0, 2, 3, 3, 0, 5))
	insideIs(t, g, 0, 4, "yyyyyy", 9, 7) // by 2, which is found ahead of 1
	insideIs(t, g, 0, 5, "yyyyyy", 9, 5)
	insideIs(t, g, 0, 4, "yynyyy", 8, 3)
	insideIs(t, g, 0, 5, "yynyyy", 8, 1)
	insideIs(t, g, 0, 5, "ynnyyy", 2, 0)
	long := built(t, 5, list(0, 1, 1, 1, 1, 2, 2, 1, 3, 0, 7, 4, 4, 7, 3, 0, 9, 2))
	insideIs(t, long, 0, 3, "yyyyy", 7, 7) // 4 is found ahead of 2
	insideIs(t, long, 0, 2, "yyyyy", 9)    // although the way by 1 has smaller nodes
	insideIs(t, long, 0, 3, "yyyyn", 9, 1)
	insideIs(t, long, 0, 3, "yynyy", 7, 7)
	notInside(t, long, 0, 3, "yynyn")
}

// compares compares Follow and Inside with the other make: for all nodes, these sets of nodes (a bit
// for each one) and all paths of at most length of the agents from 0 on.
func compares(t *testing.T, g api.Csr, sets []uint, length, agents int) {
	t.Helper()
	nodes := edges.Nodes(g)
	for from := -1; from <= nodes; from++ {
		numbersOf(length, 0, agents-1, func(path []int) {
			if got, want := trail.Follow(g, from, path), followed(g, from, path); got != want {
				t.Fatalf("%v: from %d, %v leads to %d, not %d", g, from, path, got, want)
			}
		})
		for to := -1; to <= nodes; to++ {
			for _, set := range sets {
				in := make([]bool, nodes+1)
				for i := range in {
					in[i] = set>>i&1 == 1
				}
				isInside(t, g, from, to, in)
				isInside(t, g, from, to, in[:nodes/2+1])
			}
		}
	}
}

// edgesOf are all edges between nodes, by such agents.
func edgesOf(nodes, agents int) []api.Edge {
	var l []api.Edge
	for from := range nodes {
		for agent := range agents {
			for to := range nodes {
				l = append(l, api.Edge{From: from, Agent: agent, To: to})
			}
		}
	}
	return l
}

// All graphs of few nodes and edges, in each order of the edges.
func TestSmall(t *testing.T) {
	for _, c := range []struct{ nodes, length, agents int }{{0, 0, 1}, {1, 3, 2}, {2, 3, 2}, {3, 2, 2}, {3, 4, 1}, {4, 3, 1}} {
		t.Run(fmt.Sprint(c), func(t *testing.T) {
			t.Parallel()
			var sets []uint
			for set := range uint(1) << c.nodes {
				sets = append(sets, set, set|1<<c.nodes)
			}
			of := edgesOf(c.nodes, c.agents)
			numbersOf(c.length, 0, len(of)-1, func(which []int) {
				var l []api.Edge
				for _, i := range which {
					l = append(l, of[i])
				}
				compares(t, built(t, c.nodes, l), sets, 2, c.agents+1)
			})
		})
	}
}

// Greater graphs, of few and of many edges, whose edges have agents of their own: so a path tells
// which edges it goes along.
func TestGreater(t *testing.T) {
	for seed := range uint64(60) {
		t.Run(fmt.Sprint(seed), func(t *testing.T) {
			t.Parallel()
			r := rand.New(rand.NewPCG(seed, 16))
			nodes := 2 + r.IntN(7)
			var l []api.Edge
			for i := range nodes + r.IntN(nodes) {
				l = append(l, api.Edge{From: r.IntN(nodes), Agent: i, To: r.IntN(nodes)})
			}
			r.Shuffle(len(l), func(i, k int) { l[i], l[k] = l[k], l[i] })
			sets := []uint{math.MaxUint, math.MaxUint}
			for range 6 {
				sets = append(sets, uint(r.Uint64()|r.Uint64()))
			}
			compares(t, built(t, nodes, l), sets, 1, len(l)+1)
		})
	}
}
