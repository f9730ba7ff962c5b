package fair_test

import (
	"math"
	"slices"
	"testing"

	"spinnaker/api"
	"spinnaker/edges"
	"spinnaker/fair"
)

// P18.1 to P18.4: graphs written out, and the edge cases.

// far are numbers that are no nodes of small graphs, no agents and no modes.
var far = []int{-1, -2, 1 << 32, 1<<32 + 1, math.MaxInt, math.MinInt, math.MinInt32}

// list is edges of three numbers each: From, Agent and To.
func list(numbers ...int) []api.Edge {
	var l []api.Edge
	for i := 0; i < len(numbers); i += 3 {
		l = append(l, api.Edge{From: numbers[i], Agent: numbers[i+1], To: numbers[i+2]})
	}
	return l
}

// built is the graph that edges.Build returns, which has to be one.
func built(t *testing.T, n int, l []api.Edge) api.Csr {
	t.Helper()
	g, e := edges.Build(n, l)
	if e != api.OK {
		t.Fatalf("Build(%d, %v): %d", n, l, e)
	}
	return g
}

// rows is a table with a text for each node, and in it a + for each agent that is enabled.
func rows(texts ...string) [][]bool {
	var table [][]bool
	for _, text := range texts {
		var row []bool
		for _, c := range text {
			row = append(row, c == '+')
		}
		table = append(table, row)
	}
	return table
}

// finds fails the test unless these parts are found, and are Good.
func finds(t *testing.T, g api.Csr, en [][]bool, agents int, weak, strong []int) {
	t.Helper()
	got := fair.Weak(g, en, agents)
	if !slices.Equal(got, weak) {
		t.Errorf("%v, %v: Weak is %v, not %v", g, en, got, weak)
	}
	got = fair.Strong(g, en, agents)
	if !slices.Equal(got, strong) {
		t.Errorf("%v, %v: Strong is %v, not %v", g, en, got, strong)
	}
	for mode, part := range map[int][]int{api.Weak: weak, api.Strong: strong} {
		got := fair.Find(g, en, agents, mode)
		if !slices.Equal(got, part) {
			t.Errorf("%v, %v: Find of mode %d is %v, not %v", g, en, mode, got, part)
		}
		if is := fair.Good(g, en, agents, mode, part); is != (len(part) > 0) {
			t.Errorf("%v, %v: Good of mode %d and %v is %t", g, en, mode, part, is)
		}
	}
	for _, mode := range append([]int{0, 3, 4}, far...) {
		if got := fair.Find(g, en, agents, mode); got != nil {
			t.Errorf("%v, %v: Find of mode %d is %v", g, en, mode, got)
		}
	}
}

func TestExample(t *testing.T) {
	g := built(t, 1, list(0, 0, 0))
	finds(t, g, rows("++"), 2, nil, nil)
	finds(t, g, rows("+-"), 2, []int{0}, []int{0})
}

func TestFind(t *testing.T) {
	for _, c := range []struct {
		l            []api.Edge
		en           [][]bool
		weak, strong []int
	}{
		{},
		{en: rows("-")},
		{en: rows("+")}, // without an edge, nothing is fair
		{en: rows("-", "-", "-")},
		{l: list(0, 0, 1), en: rows("+", "-")}, // an edge that leads nowhere back
		{l: list(0, 0, 1, 1, 0, 1), en: rows("+", "+"), weak: []int{1}, strong: []int{1}},
		{l: list(0, 0, 0, 0, 0, 0), en: rows("+"), weak: []int{0}, strong: []int{0}},
		// An agent is enabled at both nodes, at one of them, at none.
		{l: list(0, 0, 1, 1, 0, 0), en: rows("++", "++")},
		{l: list(0, 0, 1, 1, 0, 0), en: rows("++", "+-"), weak: []int{0, 1}},
		{l: list(0, 0, 1, 1, 0, 0), en: rows("+-", "++"), weak: []int{0, 1}},
		{l: list(0, 0, 1, 1, 0, 0), en: rows("+-", "+-"), weak: []int{0, 1}, strong: []int{0, 1}},
		// It acts once, which is enough, also where another one is enabled, too.
		{l: list(0, 0, 1, 1, 1, 0), en: rows("++", "++"), weak: []int{0, 1}, strong: []int{0, 1}},
		{l: list(0, 0, 1, 1, 0, 0, 1, 1, 1), en: rows("++", "++"), weak: []int{0, 1}, strong: []int{0, 1}},
		// It has an edge out of the part, or into it, which is not enough.
		{l: list(0, 0, 0, 0, 1, 1), en: rows("++", "--")},
		{l: list(1, 0, 1, 0, 1, 1), en: rows("-+", "+-"), weak: []int{1}, strong: []int{1}},
		{l: list(1, 0, 1, 0, 1, 1), en: rows("-+", "++")},
		{l: list(1, 0, 1, 0, 1, 1, 0, 1, 0), en: rows("-+", "++"), weak: []int{0}, strong: []int{0}},
		// The first of several, by the smallest nodes.
		{l: list(3, 0, 0, 0, 0, 3, 1, 0, 2, 2, 0, 1), en: rows("+", "+", "+", "+"), weak: []int{0, 3}, strong: []int{0, 3}},
		{l: list(3, 0, 0, 0, 0, 3, 1, 0, 2, 2, 0, 1), en: rows("++", "+-", "+-", "++"), weak: []int{1, 2}, strong: []int{1, 2}},
		{l: list(3, 0, 0, 0, 0, 3, 1, 0, 2, 2, 0, 1), en: rows("++", "+-", "+-", "+-"), weak: []int{0, 3}, strong: []int{1, 2}},
		// Without the nodes at which 1 is enabled, what is left falls apart.
		{l: list(0, 0, 1, 1, 0, 2, 2, 0, 0, 2, 0, 2), en: rows("+-", "++", "+-"), weak: []int{0, 1, 2}, strong: []int{2}},
		{l: list(0, 0, 1, 1, 0, 2, 2, 0, 0), en: rows("+-", "++", "+-"), weak: []int{0, 1, 2}},
		{l: list(0, 0, 1, 1, 0, 2, 2, 0, 0, 0, 0, 2), en: rows("+-", "++", "+-"), weak: []int{0, 1, 2}, strong: []int{0, 2}},
		// Agent 1 acts only as long as agent 2 keeps node 3 within.
		{
			l:  list(0, 0, 1, 1, 0, 0, 1, 0, 2, 2, 0, 0, 2, 1, 3, 3, 0, 0),
			en: rows("+--", "+--", "++-", "+-+"), weak: []int{0, 1, 2, 3}, strong: []int{0, 1},
		},
	} {
		agents := 0
		if len(c.en) > 0 {
			agents = len(c.en[0])
		}
		finds(t, built(t, len(c.en), c.l), c.en, agents, c.weak, c.strong)
	}
}

// Strong examines the components of what is left of a component before the next component, although
// that one may have a smaller node.
func TestStrongOrder(t *testing.T) {
	ring := list(0, 0, 4, 4, 0, 5, 5, 0, 0, 4, 0, 4, 5, 0, 5, 1, 0, 2, 2, 0, 1)
	finds(t, built(t, 6, ring), rows("++", "++", "+-", "--", "+-", "+-"), 2, []int{0, 4, 5}, []int{4})
	finds(t, built(t, 6, ring), rows("++", "+-", "+-", "--", "+-", "+-"), 2, []int{0, 4, 5}, []int{4})
	finds(t, built(t, 6, ring), rows("++", "++", "+-", "--", "++", "+-"), 2, []int{0, 4, 5}, []int{5})
	finds(t, built(t, 6, ring), rows("++", "+-", "+-", "--", "++", "+-"), 2, []int{0, 4, 5}, []int{5})
	finds(t, built(t, 6, ring), rows("++", "+-", "+-", "--", "++", "++"), 2, []int{1, 2}, []int{1, 2})
	// Two components, of which each falls apart twice: 0, 6, 7 without 0, and then 7 without 6; and
	// 1, 2, 3 without 1, and then 2 without 3.
	l := list(0, 0, 6, 6, 0, 7, 7, 0, 6, 6, 1, 0, 7, 0, 7, 1, 0, 2, 2, 0, 3, 3, 0, 2, 3, 1, 1, 2, 0, 2)
	g := built(t, 8, l)
	en := rows("+-+", "+-+", "+--", "++-", "---", "---", "++-", "+--")
	finds(t, g, en, 3, []int{0, 6, 7}, []int{7})
	en[7][2] = true
	finds(t, g, en, 3, []int{0, 6, 7}, []int{2})
	en[6][2] = true
	finds(t, g, en, 3, []int{1, 2, 3}, []int{2})
	en[2][2] = true
	finds(t, g, en, 3, []int{1, 2, 3}, nil)
	en[3][2] = true
	finds(t, g, en, 3, nil, nil)
}

// acts fails the test unless an agent acts in a part, or does not.
func acts(t *testing.T, g api.Csr, a int, want bool, part ...int) {
	t.Helper()
	if is := fair.Acts(g, part, a); is != want {
		t.Errorf("%v: Acts of %v and %d is %t", g, part, a, is)
	}
}

func TestActs(t *testing.T) {
	g := built(t, 5, list(0, 0, 1, 1, 3, 0, 2, 1, 2, 3, 1, 2, 0, 3, 3, 3, 1000, 4))
	acts(t, g, 0, true, 0, 1)
	acts(t, g, 0, true, 1, 0)
	acts(t, g, 0, true, 4, 1, 3, 0)
	acts(t, g, 0, false, 0)
	acts(t, g, 0, false, 1)
	acts(t, g, 0, false, 0, 0, 2, 3, 4)
	acts(t, g, 3, true, 0, 1)
	acts(t, g, 3, true, 0, 3)
	acts(t, g, 3, false, 1, 3)
	acts(t, g, 1, true, 2)
	acts(t, g, 1, true, 2, 2)
	acts(t, g, 1, true, 3, 2, 0)
	acts(t, g, 1, false, 3, 4, 0, 1)
	acts(t, g, 1000, true, 3, 4)
	acts(t, g, 1000, false, 3)
	acts(t, g, 1000, false, 4)
	acts(t, g, 2, false, 0, 1, 2, 3, 4) // there is no such agent
	acts(t, g, 4, false, 0, 1, 2, 3, 4)
	for _, a := range far {
		acts(t, g, a, false, 0, 1, 2, 3, 4)
	}
	for a := range 4 {
		acts(t, g, a, false)
	}
	// Numbers that are not nodes count for nothing.
	acts(t, g, 0, true, append([]int{5, 0, 6, 1}, far...)...)
	acts(t, g, 0, false, append([]int{5, 0, 6}, far...)...)
	acts(t, g, 1, false, append([]int{5, 6}, far...)...)
	acts(t, built(t, 0, nil), 0, false, 0)
	acts(t, built(t, 0, nil), 0, false)
	acts(t, built(t, 2, nil), 0, false, 0, 1)
	acts(t, built(t, 1, list(0, math.MaxInt, 0)), math.MaxInt, true, 0)
}

// isGood fails the test unless a part is Good in these modes, and in no other one.
func isGood(t *testing.T, g api.Csr, en [][]bool, modes []int, part ...int) {
	t.Helper()
	for _, mode := range append([]int{0, 1, 2, 3, 4}, far...) {
		if is := fair.Good(g, en, 2, mode, part); is != slices.Contains(modes, mode) {
			t.Errorf("%v, %v: Good of mode %d and %v is %t", g, en, mode, part, is)
		}
	}
}

func TestGood(t *testing.T) {
	weak, both := []int{api.Weak}, []int{api.Weak, api.Strong}
	g := built(t, 5, list(0, 0, 1, 1, 0, 2, 2, 0, 0, 1, 0, 0, 2, 0, 2, 3, 0, 3, 3, 1, 4))
	en := rows("+-", "+-", "++", "++", "-+")
	isGood(t, g, en, weak, 0, 1, 2)
	isGood(t, g, en, weak, 2, 0, 1) // in any order
	isGood(t, g, en, weak, 2, 1, 0)
	isGood(t, g, en, both, 0, 1) // not all of a component of the graph
	isGood(t, g, en, both, 1, 0)
	isGood(t, g, en, nil, 2) // where 1 is enabled and does not act
	isGood(t, g, en, nil, 3) // as it acts out of the part
	isGood(t, g, en, nil, 0, 2)
	isGood(t, g, en, nil, 1, 2)
	isGood(t, g, en, nil, 2, 3) // one or the other
	isGood(t, g, en, nil, 0, 1, 3)
	isGood(t, g, en, nil, 0, 1, 4)
	isGood(t, g, en, nil, 0, 1, 2, 3)
	isGood(t, g, en, nil, 3, 4)
	isGood(t, g, en, nil)
	for i := range 2 {
		isGood(t, g, en, nil, i) // no edge from it to itself
	}
	isGood(t, g, en, nil, 4)
	isGood(t, g, en, nil, 0, 1, 0) // twice
	isGood(t, g, en, nil, 0, 0, 1)
	isGood(t, g, en, nil, 0, 1, 1)
	for _, i := range append([]int{5, 6}, far...) {
		isGood(t, g, en, nil, i)
		isGood(t, g, en, nil, i, 0, 1)
		isGood(t, g, en, nil, 0, 1, i)
		isGood(t, g, en, nil, 0, i, 1)
	}
	en = rows("+-", "+-", "+-", "+-", "-+")
	g = built(t, 5, list(0, 0, 1, 1, 0, 2, 2, 0, 0, 1, 0, 0, 2, 0, 2, 3, 0, 3, 4, 1, 4))
	isGood(t, g, en, both, 0, 1, 2)
	isGood(t, g, en, both, 2)
	isGood(t, g, en, both, 3)
	isGood(t, g, en, both, 4)
	isGood(t, g, en, nil, 2, 3)
	isGood(t, built(t, 0, nil), nil, nil)
	isGood(t, built(t, 0, nil), nil, nil, 0)
}

// What is given as nil and as an empty list is the same.
func TestNilAndEmpty(t *testing.T) {
	none := api.Csr{Start: []int{0, 0}, Agent: []int{}, To: []int{}}
	for _, en := range [][][]bool{{nil}, {{}}} {
		finds(t, none, en, 0, nil, nil)
		acts(t, none, 0, false, 0)
	}
	for _, en := range [][][]bool{nil, {}} {
		finds(t, api.Csr{Start: []int{0}}, en, 2, nil, nil)
	}
	loop := built(t, 1, list(0, 0, 0))
	if fair.Good(loop, rows("+"), 1, api.Weak, []int{}) || fair.Good(loop, rows("+"), 1, api.Weak, nil) || fair.Acts(loop, []int{}, 0) || fair.Acts(loop, nil, 0) {
		t.Error("a part without nodes")
	}
}
