package scc_test

import (
	"math"
	"slices"
	"testing"

	"spinnaker/api"
	"spinnaker/edges"
	"spinnaker/scc"
)

// P17.1 to P17.3: graphs written out, the edge cases, and graphs that are not valid.

// far are numbers that are no nodes of small graphs.
var far = []int{-1, -2, 1 << 32, 1<<32 + 1, math.MaxInt, math.MinInt, math.MinInt32}

// built is the graph with edges between these pairs of nodes, each by an agent of its own.
func built(t *testing.T, n int, pairs ...int) api.Csr {
	t.Helper()
	var l []api.Edge
	for i := 0; i < len(pairs); i += 2 {
		l = append(l, api.Edge{From: pairs[i], Agent: i, To: pairs[i+1]})
	}
	g, e := edges.Build(n, l)
	if e != api.OK {
		t.Fatalf("Build(%d, %v): %d", n, l, e)
	}
	return g
}

// same compares lists of lists.
func same(a, b [][]int) bool {
	return slices.EqualFunc(a, b, slices.Equal[[]int])
}

// flags are the bools that have these marks, y or n.
func flags(marks string) []bool {
	var l []bool
	for _, c := range marks {
		l = append(l, c == 'y')
	}
	return l
}

// several is a graph with a node without edges (2), edges of a node to itself, components that are
// reached by several ways, and two edges between the same nodes.
func several(t *testing.T) api.Csr {
	t.Helper()
	return built(t, 9, 7, 1, 1, 7, 1, 1, 7, 0, 7, 0, 0, 8, 8, 5, 5, 0, 3, 8, 3, 4, 4, 6, 6, 3, 6, 5, 1, 4, 6, 6)
}

func TestExample(t *testing.T) {
	g := built(t, 3, 0, 1, 1, 0, 1, 2)
	if l := scc.Groups(g); !same(l, [][]int{{0, 1}, {2}}) {
		t.Errorf("the groups are %v", l)
	}
	if l := scc.Parts(g); !slices.Equal(l, []int{0, 0, 1}) {
		t.Errorf("the parts are %v", l)
	}
}

func TestParts(t *testing.T) {
	for _, c := range []struct {
		n     int
		pairs []int
		parts []int
	}{
		{0, nil, nil},
		{1, nil, []int{0}},
		{1, []int{0, 0}, []int{0}},
		{1, []int{0, 0, 0, 0}, []int{0}},
		{4, nil, []int{0, 1, 2, 3}},
		{2, []int{0, 1}, []int{0, 1}},
		{2, []int{1, 0}, []int{0, 1}},
		{2, []int{0, 1, 1, 0}, []int{0, 0}},
		{2, []int{0, 1, 0, 1, 1, 1}, []int{0, 1}},
		{4, []int{0, 1, 1, 2, 2, 3}, []int{0, 1, 2, 3}},
		{4, []int{3, 2, 2, 1, 1, 0}, []int{0, 1, 2, 3}},
		{4, []int{0, 3, 3, 1, 1, 2, 2, 0}, []int{0, 0, 0, 0}},
		{4, []int{0, 2, 2, 0, 1, 3, 3, 1}, []int{0, 1, 0, 1}},
		{4, []int{3, 0, 0, 3, 2, 1, 1, 2}, []int{0, 1, 1, 0}},
		{4, []int{0, 3, 3, 0, 3, 1, 1, 2, 2, 1}, []int{0, 1, 1, 0}},
		{5, []int{2, 1, 1, 0, 0, 2, 4, 3, 3, 4, 2, 4}, []int{0, 0, 0, 1, 1}},
		{5, []int{1, 2, 2, 3, 3, 1, 3, 2, 0, 1, 0, 4, 4, 1}, []int{0, 1, 1, 1, 2}},
		// Two ways from 0 to 3, which leads back along one of them only.
		{5, []int{0, 1, 1, 3, 0, 2, 2, 3, 3, 4, 4, 2}, []int{0, 1, 2, 2, 2}},
		// A node that is found early leads to the end by an edge to one that was found before.
		{6, []int{0, 1, 1, 2, 2, 3, 3, 1, 0, 4, 4, 5, 5, 0, 4, 2}, []int{0, 1, 1, 1, 0, 0}},
		// Cycles that share a node.
		{7, []int{3, 0, 0, 1, 1, 3, 3, 2, 2, 4, 4, 3, 5, 3, 3, 6}, []int{0, 0, 0, 0, 0, 1, 2}},
	} {
		g := built(t, c.n, c.pairs...)
		if l := scc.Parts(g); !slices.Equal(l, c.parts) {
			t.Errorf("%d nodes, %v: the parts are %v, not %v", c.n, c.pairs, l, c.parts)
		}
	}
	if l := scc.Parts(several(t)); !slices.Equal(l, []int{0, 1, 2, 3, 3, 0, 3, 1, 0}) {
		t.Errorf("the parts are %v", l)
	}
}

func TestGroups(t *testing.T) {
	if l := scc.Groups(several(t)); !same(l, [][]int{{0, 5, 8}, {1, 7}, {2}, {3, 4, 6}}) {
		t.Errorf("the groups are %v", l)
	}
	if l := scc.Groups(built(t, 0)); len(l) != 0 {
		t.Errorf("without nodes the groups are %v", l)
	}
	if l := scc.Groups(built(t, 3)); !same(l, [][]int{{0}, {1}, {2}}) {
		t.Errorf("without edges the groups are %v", l)
	}
	if l := scc.Groups(built(t, 4, 3, 0, 0, 3, 1, 1)); !same(l, [][]int{{0, 3}, {1}, {2}}) {
		t.Errorf("the groups are %v", l)
	}
}

func TestWithin(t *testing.T) {
	g := several(t)
	for _, c := range []struct {
		in   string
		want [][]int
	}{
		{"", nil},
		{"nnnnnnnnn", nil},
		{"nnnnnnnnnyyy", nil}, // what is beyond the nodes is none
		{"yyyyyyyyy", [][]int{{0, 5, 8}, {1, 7}, {2}, {3, 4, 6}}},
		{"yyyyyyyyyyn", [][]int{{0, 5, 8}, {1, 7}, {2}, {3, 4, 6}}},
		{"yyyyyyyy", [][]int{{0}, {1, 7}, {2}, {3, 4, 6}, {5}}}, // 8 is not in, as in does not go as far
		{"yyyyyynyy", [][]int{{0, 5, 8}, {1, 7}, {2}, {3}, {4}}},
		{"nynnnnnyn", [][]int{{1, 7}}},
		{"nynnnnnnn", [][]int{{1}}},
		{"nnnnnnnyn", [][]int{{7}}},
		{"nny", [][]int{{2}}},
		{"nnyynnnyy", [][]int{{2}, {3}, {7}, {8}}},
		{"nnnyyynnn", [][]int{{3}, {4}, {5}}},
		{"nnnyynyny", [][]int{{3, 4, 6}, {8}}},
		{"yynnnyyyy", [][]int{{0, 5, 8}, {1, 7}, {6}}},
	} {
		if l := scc.Within(g, flags(c.in)); !same(l, c.want) {
			t.Errorf("within %s the groups are %v, not %v", c.in, l, c.want)
		}
	}
	// Nodes of one component that are connected only by others.
	ring := built(t, 5, 0, 3, 3, 1, 1, 4, 4, 2, 2, 0, 1, 3)
	for _, c := range []struct {
		in   string
		want [][]int
	}{
		{"yyyyy", [][]int{{0, 1, 2, 3, 4}}},
		{"yyyyn", [][]int{{0}, {1, 3}, {2}}},
		{"nyyyy", [][]int{{1, 3}, {2}, {4}}},
		{"yynyy", [][]int{{0}, {1, 3}, {4}}},
		{"yyyny", [][]int{{0}, {1}, {2}, {4}}},
	} {
		if l := scc.Within(ring, flags(c.in)); !same(l, c.want) {
			t.Errorf("within %s of the ring the groups are %v, not %v", c.in, l, c.want)
		}
	}
	for _, in := range []string{"", "n", "yyy"} {
		if l := scc.Within(built(t, 0), flags(in)); len(l) != 0 {
			t.Errorf("without nodes, within %s the groups are %v", in, l)
		}
	}
	if l := scc.Within(built(t, 3), flags("yny")); !same(l, [][]int{{0}, {2}}) {
		t.Errorf("without edges the groups are %v", l)
	}
}

func TestCyclic(t *testing.T) {
	g := several(t)
	for _, c := range []struct {
		part []int
		want bool
	}{
		{nil, false},
		{[]int{}, false},
		{[]int{1}, true}, // an edge to itself
		{[]int{6}, true},
		{[]int{0}, false},
		{[]int{2}, false},
		{[]int{0, 0, 0}, false},
		{[]int{0, 8}, true},
		{[]int{8, 0}, true},
		{[]int{0, 5}, true},
		{[]int{0, 2, 4}, false},
		{[]int{4, 2, 0, 4}, false},
		{[]int{7, 0}, true}, // an edge is enough, there need be no cycle
		{[]int{0, 7}, true},
		{[]int{7, 5}, false},
		{[]int{3, 5, 7}, false},
		{[]int{3, 5, 8}, true},
		{[]int{0, 5, 8}, true},
		{[]int{3, 4, 6}, true},
		{[]int{0, 1, 2, 3, 4, 5, 6, 7, 8}, true},
		{append([]int{9, 10, 0, 2}, far...), false},
		{append(slices.Clone(far), 9, 1), true},
		{append([]int{8, 9, 0}, far...), true},
		{[]int{9}, false},
		{far, false},
	} {
		if is := scc.Cyclic(g, c.part); is != c.want {
			t.Errorf("Cyclic of %v is %t", c.part, is)
		}
	}
	for _, part := range [][]int{nil, {0}, {0, 1}, far} {
		if scc.Cyclic(built(t, 0), part) {
			t.Errorf("without nodes, %v is cyclic", part)
		}
		if scc.Cyclic(built(t, 2), part) {
			t.Errorf("without edges, %v is cyclic", part)
		}
	}
	if !scc.Cyclic(built(t, 1, 0, 0), []int{0}) || scc.Cyclic(built(t, 1, 0, 0), []int{1}) {
		t.Error("an edge of the only node")
	}
}

// What is given as nil and as an empty list is the same.
func TestNilAndEmpty(t *testing.T) {
	for _, g := range []api.Csr{{Start: []int{0, 0}}, {Start: []int{0, 0}, Agent: []int{}}, {Start: []int{0, 0}, To: []int{}}, {Start: []int{0, 0}, Agent: []int{}, To: []int{}}} {
		if !slices.Equal(scc.Parts(g), []int{0}) || !same(scc.Groups(g), [][]int{{0}}) {
			t.Errorf("%v has the parts %v and the groups %v", g, scc.Parts(g), scc.Groups(g))
		}
		if len(scc.Within(g, nil)) != 0 || len(scc.Within(g, []bool{})) != 0 || !same(scc.Within(g, []bool{true}), [][]int{{0}}) || scc.Cyclic(g, []int{0}) {
			t.Errorf("%v has something else within", g)
		}
	}
}

// noGraph fails the test unless a graph that is not valid has nothing.
func noGraph(t *testing.T, g api.Csr) {
	t.Helper()
	if edges.Right(g) {
		t.Fatalf("%v is a graph", g)
	}
	if scc.Parts(g) != nil || scc.Groups(g) != nil {
		t.Errorf("%v has the parts %v and the groups %v", g, scc.Parts(g), scc.Groups(g))
	}
	for _, in := range [][]bool{nil, {}, {true}, {false, true}, {true, true, true, true, true}} {
		if l := scc.Within(g, in); len(l) != 0 {
			t.Errorf("%v has within %v the groups %v", g, in, l)
		}
	}
	for _, part := range [][]int{nil, {0}, {1, 0}, {0, 1, 2, 3}, far} {
		if scc.Cyclic(g, part) {
			t.Errorf("%v has an edge within %v", g, part)
		}
	}
}

func TestNoGraph(t *testing.T) {
	for _, g := range []api.Csr{
		{},
		{Start: []int{}, Agent: []int{}, To: []int{}},
		{Agent: []int{0}, To: []int{0}},
		{Start: []int{1}},
		{Start: []int{-1}},
		{Start: []int{0, 1}},
		{Start: []int{1, 1}, Agent: []int{0}, To: []int{0}},
		{Start: []int{-1, 1}, Agent: []int{0}, To: []int{0}},
		{Start: []int{0, 0}, Agent: []int{0}, To: []int{0}},
		{Start: []int{0, 1}, Agent: []int{0}},
		{Start: []int{0, 1}, To: []int{0}},
		{Start: []int{0, 1}, Agent: []int{0}, To: []int{0, 0}},
		{Start: []int{0, 1}, Agent: []int{0, 0}, To: []int{0}},
		{Start: []int{0, 2}, Agent: []int{0}, To: []int{0}},
		{Start: []int{0, 1}, Agent: []int{-1}, To: []int{0}},
		{Start: []int{0, 1}, Agent: []int{math.MinInt}, To: []int{0}},
		{Start: []int{0, 1}, Agent: []int{0}, To: []int{1}},
		{Start: []int{0, 1}, Agent: []int{0}, To: []int{-1}},
		{Start: []int{0, 1}, Agent: []int{0}, To: []int{math.MinInt}},
		{Start: []int{0, 1}, Agent: []int{0}, To: []int{math.MaxInt}},
		{Start: []int{0, 2, 1}, Agent: []int{0}, To: []int{0}},
		{Start: []int{0, 1, 0, 1}, Agent: []int{0}, To: []int{0}},
		{Start: []int{0, -1, 1}, Agent: []int{0}, To: []int{0}},
		{Start: []int{0, math.MaxInt, 1}, Agent: []int{0}, To: []int{0}},
		{Start: []int{0, 1, 2}, Agent: []int{0, 0}, To: []int{1, 2}},
		{Start: []int{0, 1, 2}, Agent: []int{0, -1}, To: []int{1, 0}},
		{Start: []int{0, 1, 3}, Agent: []int{0, 0}, To: []int{1, 0}},
	} {
		noGraph(t, g)
	}
}
