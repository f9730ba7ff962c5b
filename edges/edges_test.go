package edges_test

import (
	"fmt"
	"math"
	"slices"
	"testing"

	"spinnaker/api"
	"spinnaker/edges"
)

// P14.1 to P14.3: ordinary graphs, the edge cases, and numbers that Build refuses.

// list is edges of three numbers each: From, Agent and To.
func list(numbers ...int) []api.Edge {
	var l []api.Edge
	for i := 0; i < len(numbers); i += 3 {
		l = append(l, api.Edge{From: numbers[i], Agent: numbers[i+1], To: numbers[i+2]})
	}
	return l
}

// built is the graph that Build returns, which has to be one.
func built(t *testing.T, n int, l []api.Edge) api.Csr {
	t.Helper()
	g, e := edges.Build(n, l)
	if e != api.OK {
		t.Fatalf("Build(%d, %v): %d", n, l, e)
	}
	return g
}

// isCsr compares a graph with the lists that it has to have.
func isCsr(t *testing.T, g api.Csr, start, agent, to []int) {
	t.Helper()
	if !slices.Equal(g.Start, start) || !slices.Equal(g.Agent, agent) || !slices.Equal(g.To, to) {
		t.Errorf("the graph is %v, not %v %v %v", g, start, agent, to)
	}
}

// isList compares edges with those that there have to be.
func isList(t *testing.T, got []api.Edge, numbers ...int) {
	t.Helper()
	if want := list(numbers...); !slices.Equal(got, want) {
		t.Errorf("the edges are %v, not %v", got, want)
	}
}

// marks are y for each true and n for each false.
func marks(l []bool) string {
	s := ""
	for _, b := range l {
		if b {
			s += "y"
		} else {
			s += "n"
		}
	}
	return s
}

// flags are the bools that have these marks.
func flags(s string) []bool {
	var l []bool
	for _, c := range s {
		l = append(l, c == 'y')
	}
	return l
}

// several is a graph with a node without edges (2), edges of a node to itself, and two between the
// same nodes, by the same and by different agents.
func several(t *testing.T) api.Csr {
	t.Helper()
	return built(t, 5, list(3, 0, 1, 0, 1, 3, 3, 2, 0, 1, 3, 1, 4, 1, 0, 3, 0, 1, 1, 0, 1, 0, 0, 3))
}

func TestExample(t *testing.T) {
	g := built(t, 2, list(0, 3, 1))
	isCsr(t, g, []int{0, 1, 1}, []int{3}, []int{1})
	isList(t, edges.Out(g, 0), 0, 3, 1)
	isList(t, edges.Out(g, 1))
	b := edges.Back(g)
	isCsr(t, b, []int{0, 0, 1}, []int{3}, []int{0})
	isList(t, edges.Out(b, 0))
	isList(t, edges.Out(b, 1), 1, 3, 0)
}

func TestBuild(t *testing.T) {
	isCsr(t, several(t), []int{0, 2, 4, 4, 7, 8}, []int{1, 0, 3, 0, 0, 2, 0, 1}, []int{3, 3, 1, 1, 1, 0, 1, 0})
	isCsr(t, built(t, 0, nil), []int{0}, nil, nil)
	isCsr(t, built(t, 1, nil), []int{0, 0}, nil, nil)
	isCsr(t, built(t, 3, []api.Edge{}), []int{0, 0, 0, 0}, nil, nil)
	isCsr(t, built(t, 1, list(0, 0, 0)), []int{0, 1}, []int{0}, []int{0})
	isCsr(t, built(t, 1, list(0, 7, 0, 0, 5, 0, 0, 7, 0)), []int{0, 3}, []int{7, 5, 7}, []int{0, 0, 0})
	isCsr(t, built(t, 3, list(2, math.MaxInt, 0, 1, 1000000, 2)), []int{0, 0, 1, 2}, []int{1000000, math.MaxInt}, []int{2, 0})
	isCsr(t, built(t, 2, list(1, 4, 0, 0, 3, 1, 1, 2, 1, 0, 1, 0)), []int{0, 2, 4}, []int{3, 1, 4, 2}, []int{1, 0, 0, 1})
}

// noBuild fails the test unless Build refuses this.
func noBuild(t *testing.T, n int, l []api.Edge) {
	t.Helper()
	if g, e := edges.Build(n, l); e != api.ErrArg || g.Start != nil || g.Agent != nil || g.To != nil {
		t.Errorf("Build(%d, %v): %v, %d", n, l, g, e)
	}
}

func TestBuildNumbers(t *testing.T) {
	for _, n := range []int{-1, -2, math.MinInt, api.MaxStates + 1, api.MaxStates + 2, 1 << 32, 1<<32 + 1, math.MaxInt} {
		noBuild(t, n, nil)
		noBuild(t, n, list(0, 0, 0))
		noBuild(t, n, list(-1, -1, -1))
	}
	for _, n := range []int{0, 1, 2, 17, api.MaxStates - 1, api.MaxStates} {
		g := built(t, n, nil)
		if !edges.Right(g) || edges.Nodes(g) != n || len(g.Start) != n+1 {
			t.Errorf("%d nodes: %d, %d", n, edges.Nodes(g), len(g.Start))
		}
	}
}

// One edge that can't be, alone and at each place among others.
func TestBuildEdges(t *testing.T) {
	for _, n := range []int{0, 1, 2, 3, 100, api.MaxStates} {
		good := list(0, 0, n-1, n-1, 1, 0, n-1, 0, n-1)
		if n == 0 {
			good = nil
		}
		built(t, n, good)
		for _, bad := range []int{-1, -2, n, n + 1, math.MinInt, math.MaxInt, math.MinInt32, 1 << 32} {
			for _, e := range list(bad, 0, 0, 0, 0, bad, bad, 0, bad) {
				for i := range len(good) + 1 {
					noBuild(t, n, slices.Insert(slices.Clone(good), i, e))
				}
			}
		}
		for _, agent := range []int{-1, -2, math.MinInt, math.MinInt32} {
			for i := range len(good) + 1 {
				noBuild(t, n, slices.Insert(slices.Clone(good), i, api.Edge{Agent: agent}))
			}
		}
	}
}

func TestOut(t *testing.T) {
	g := several(t)
	isList(t, edges.Out(g, 0), 0, 1, 3, 0, 0, 3)
	isList(t, edges.Out(g, 1), 1, 3, 1, 1, 0, 1)
	isList(t, edges.Out(g, 2))
	isList(t, edges.Out(g, 3), 3, 0, 1, 3, 2, 0, 3, 0, 1)
	isList(t, edges.Out(g, 4), 4, 1, 0)
	for _, i := range []int{-1, -5, 5, 6, 8, math.MinInt, math.MaxInt} {
		if l := edges.Out(g, i); l != nil {
			t.Errorf("Out of %d: %v", i, l)
		}
	}
	none := built(t, 0, nil)
	for _, i := range []int{-1, 0, 1} {
		if l := edges.Out(none, i); l != nil {
			t.Errorf("Out of %d in a graph without nodes: %v", i, l)
		}
	}
}

func TestAll(t *testing.T) {
	isList(t, edges.All(several(t)), 0, 1, 3, 0, 0, 3, 1, 3, 1, 1, 0, 1, 3, 0, 1, 3, 2, 0, 3, 0, 1, 4, 1, 0)
	isList(t, edges.All(built(t, 3, nil)))
	isList(t, edges.All(built(t, 0, nil)))
}

// The edges to a node come from the smallest node first, whatever the order was in which they were
// given to Build.
func TestBack(t *testing.T) {
	b := edges.Back(several(t))
	isCsr(t, b, []int{0, 2, 6, 6, 8, 8}, []int{2, 1, 3, 0, 0, 0, 1, 0}, []int{3, 4, 1, 1, 3, 3, 0, 0})
	isList(t, edges.All(b), 0, 2, 3, 0, 1, 4, 1, 3, 1, 1, 0, 1, 1, 0, 3, 1, 0, 3, 3, 1, 0, 3, 0, 0)
	isCsr(t, edges.Back(built(t, 0, nil)), []int{0}, nil, nil)
	isCsr(t, edges.Back(built(t, 3, nil)), []int{0, 0, 0, 0}, nil, nil)
	isCsr(t, edges.Back(built(t, 1, list(0, 2, 0, 0, 1, 0))), []int{0, 2}, []int{2, 1}, []int{0, 0})
}

func TestKeep(t *testing.T) {
	g := several(t)
	for _, c := range []struct {
		in    string
		edges []api.Edge
	}{
		{"", nil},
		{"nnnnn", nil},
		{"ynnnn", nil},
		{"nynnn", list(1, 3, 1, 1, 0, 1)},
		{"ny", list(1, 3, 1, 1, 0, 1)},
		{"nnynn", nil},
		{"nynyn", list(1, 3, 1, 1, 0, 1, 3, 0, 1, 3, 0, 1)},
		{"ynny", list(0, 1, 3, 0, 0, 3, 3, 2, 0)},
		{"nnnny", nil},
		{"ynnny", list(4, 1, 0)},
		{"nyyyy", list(1, 3, 1, 1, 0, 1, 3, 0, 1, 3, 0, 1)},
		{"yyyyy", edges.All(g)},
		{"yynyy", edges.All(g)},
		{"yyyyyyyn", edges.All(g)},
		{"nnnnnyyy", nil},
	} {
		k := edges.Keep(g, flags(c.in))
		if !edges.Right(k) || edges.Nodes(k) != 5 || !slices.Equal(edges.All(k), c.edges) {
			t.Errorf("Keep of %s: %v", c.in, k)
		}
	}
	isCsr(t, edges.Keep(g, flags("nyny")), []int{0, 0, 2, 2, 4, 4}, []int{3, 0, 0, 0}, []int{1, 1, 1, 1})
	isCsr(t, edges.Keep(built(t, 0, nil), flags("yy")), []int{0}, nil, nil)
	isCsr(t, edges.Keep(built(t, 2, nil), nil), []int{0, 0, 0}, nil, nil)
}

func TestReach(t *testing.T) {
	g := several(t)
	for _, c := range []struct {
		from []int
		want string
	}{
		{nil, "nnnnn"},
		{[]int{}, "nnnnn"},
		{[]int{0}, "yynyn"},
		{[]int{1}, "nynnn"},
		{[]int{2}, "nnynn"},
		{[]int{3}, "yynyn"},
		{[]int{4}, "yynyy"},
		{[]int{1, 2}, "nyynn"},
		{[]int{2, 1, 2, 1, 1}, "nyynn"},
		{[]int{4, 2}, "yyyyy"},
		{[]int{5, -1, math.MinInt, math.MaxInt, 1 << 32}, "nnnnn"},
		{[]int{5, -1, 1, math.MinInt, 2, math.MaxInt}, "nyynn"},
	} {
		if got := marks(edges.Reach(g, c.from)); got != c.want {
			t.Errorf("Reach from %v: %s, not %s", c.from, got, c.want)
		}
	}
	if l := edges.Reach(built(t, 0, nil), []int{-1, 0, 1}); len(l) != 0 {
		t.Errorf("Reach in a graph without nodes: %v", l)
	}
	if got := marks(edges.Reach(built(t, 3, nil), []int{1})); got != "nyn" {
		t.Errorf("Reach without edges: %s", got)
	}
}

// What is given as nil and as an empty list is the same.
func TestNilAndEmpty(t *testing.T) {
	for _, g := range []api.Csr{{Start: []int{0}}, {Start: []int{0}, Agent: []int{}}, {Start: []int{0, 0}, To: []int{}}, {Start: []int{0, 0}, Agent: []int{}, To: []int{}}} {
		n := len(g.Start) - 1
		text := fmt.Sprint(g)
		if !edges.Right(g) || edges.Nodes(g) != n || len(edges.All(g)) != 0 || len(edges.Out(g, 0)) != 0 || len(edges.Reach(g, nil)) != n {
			t.Errorf("%s is not a graph of %d nodes", text, n)
		}
		isCsr(t, edges.Back(g), g.Start, nil, nil)
		isCsr(t, edges.Keep(g, nil), g.Start, nil, nil)
		isCsr(t, edges.Keep(g, []bool{}), g.Start, nil, nil)
	}
}
