package fair_test

import (
	"math"
	"slices"
	"testing"

	"spinnaker/api"
	"spinnaker/fair"
)

// Graphs and tables that are not valid.

// nothing fails the test unless for a graph and a table that are not valid there is nothing.
func nothing(t *testing.T, g api.Csr, en [][]bool, agents int) {
	t.Helper()
	if l := fair.Weak(g, en, agents); l != nil {
		t.Errorf("%v, %v, %d agents: Weak is %v", g, en, agents, l)
	}
	if l := fair.Strong(g, en, agents); l != nil {
		t.Errorf("%v, %v, %d agents: Strong is %v", g, en, agents, l)
	}
	for mode := -1; mode < 4; mode++ {
		if l := fair.Find(g, en, agents, mode); l != nil {
			t.Errorf("%v, %v, %d agents: Find of mode %d is %v", g, en, agents, mode, l)
		}
		for _, part := range [][]int{nil, {0}, {1}, {0, 1}, {1, 0}, {2}, far} {
			if fair.Good(g, en, agents, mode, part) {
				t.Errorf("%v, %v, %d agents: Good of mode %d and %v", g, en, agents, mode, part)
			}
		}
	}
}

func TestNoGraph(t *testing.T) {
	for _, g := range []api.Csr{
		{},
		{Start: []int{}, Agent: []int{}, To: []int{}},
		{Agent: []int{0}, To: []int{0}},
		{Start: []int{1}},
		{Start: []int{0, 1}},
		{Start: []int{1, 1}, Agent: []int{0}, To: []int{0}},
		{Start: []int{-1, 1}, Agent: []int{0}, To: []int{0}},
		{Start: []int{0, 0}, Agent: []int{0}, To: []int{0}},
		{Start: []int{0, 1}, Agent: []int{0}},
		{Start: []int{0, 1}, To: []int{0}},
		{Start: []int{0, 1}, Agent: []int{0}, To: []int{0, 0}},
		{Start: []int{0, 1}, Agent: []int{0, 0}, To: []int{0}},
		{Start: []int{0, 2}, Agent: []int{0}, To: []int{0}},
		{Start: []int{0, 2}, Agent: []int{0, -1}, To: []int{0, 0}},
		{Start: []int{0, 1}, Agent: []int{math.MinInt}, To: []int{0}},
		{Start: []int{0, 2}, Agent: []int{0, 0}, To: []int{0, 1}},
		{Start: []int{0, 2}, Agent: []int{0, 0}, To: []int{0, -1}},
		{Start: []int{0, 1}, Agent: []int{0}, To: []int{math.MaxInt}},
		{Start: []int{0, 2, 1}, Agent: []int{0}, To: []int{0}},
		{Start: []int{0, 1, 0, 1}, Agent: []int{0}, To: []int{0}},
		{Start: []int{0, math.MaxInt, 1}, Agent: []int{0}, To: []int{0}},
		{Start: []int{0, 1, 3}, Agent: []int{0, 0}, To: []int{0, 1}},
	} {
		for n := range 5 {
			nothing(t, g, slices.Repeat(rows("+"), n), 1)
			nothing(t, g, make([][]bool, n), 0)
		}
		for a := -1; a < 2; a++ {
			for _, part := range [][]int{nil, {0}, {1}, {0, 1, 2, 3}, far} {
				acts(t, g, a, false, part...)
			}
		}
	}
}

func TestNoTable(t *testing.T) {
	g := built(t, 2, list(0, 0, 1, 1, 1, 0))
	finds(t, g, rows("+-", "-+"), 2, []int{0, 1}, []int{0, 1})
	for _, en := range [][][]bool{
		nil,
		{},
		rows("+-"),
		rows("+-", "-+", "--"),
		rows("+-", "-+", ""),
		{nil, nil},
		rows("", ""),
		rows("+-", ""),
		rows("+-", "-"),
		rows("+-", "+"),
		rows("+", "-+"),
		rows("+-", "-+-"),
		rows("+-+", "-+"),
		rows("+", "+"),
		rows("+--", "-+-"),
		rows("--", "-+"), // the agent of an edge is not enabled
		rows("-+", "-+"),
		rows("+-", "--"),
		rows("+-", "+-"),
	} {
		nothing(t, g, en, 2)
	}
	for _, agents := range append([]int{0, 1, 3, 4, 100, 101}, far...) {
		nothing(t, g, rows("+-", "-+"), agents)
	}
	nothing(t, g, rows("+", "-"), 1) // the agent of an edge is none
	nothing(t, g, rows("", ""), 0)
	finds(t, g, rows("+--", "-+-"), 3, []int{0, 1}, []int{0, 1})
	finds(t, g, rows("+--", "-++"), 3, []int{0, 1}, nil)
	nothing(t, built(t, 1, list(0, math.MaxInt, 0)), rows("+"), 1)
	nothing(t, built(t, 1, list(0, 0, 0, 0, 2, 0)), rows("++"), 2)
	// The graph is valid, and something is fair in it, but at another node something is wrong.
	loop := built(t, 3, list(0, 0, 0, 2, 1, 1))
	finds(t, loop, rows("+-", "--", "-+"), 2, []int{0}, []int{0})
	nothing(t, loop, rows("+-", "--", "+-"), 2)
	nothing(t, loop, rows("+-", "-", "-+"), 2)
	nothing(t, loop, rows("+-", "--"), 2)
}

// The number of agents has bounds of its own, also without any row or edge.
func TestAgents(t *testing.T) {
	wide := func(agents, enabled int) [][]bool {
		row := make([]bool, agents)
		for a := range enabled {
			row[a] = true
		}
		return [][]bool{row}
	}
	loop := built(t, 1, list(0, 0, 0))
	for agents := 1; agents <= 100; agents++ {
		finds(t, loop, wide(agents, 1), agents, []int{0}, []int{0})
		last := built(t, 1, list(0, agents-1, 0))
		nothing(t, last, wide(agents-1, agents-1), agents-1)
		nothing(t, last, wide(agents, agents-1), agents)
		if agents > 1 {
			finds(t, loop, wide(agents, agents), agents, nil, nil)
			finds(t, last, wide(agents, agents), agents, nil, nil)
		}
	}
	nothing(t, loop, wide(101, 1), 101)
	nothing(t, loop, wide(102, 1), 102)
	nothing(t, built(t, 1, list(0, 100, 0)), wide(101, 101), 101)
	var each []api.Edge
	for a := range 101 {
		each = append(each, api.Edge{Agent: a})
	}
	finds(t, built(t, 1, each[:100]), wide(100, 100), 100, []int{0}, []int{0})
	nothing(t, built(t, 1, each), wide(101, 101), 101)
	nothing(t, built(t, 1, each), wide(100, 100), 100)
	for _, agents := range append([]int{0, 100, 101}, far...) {
		finds(t, built(t, 0, nil), nil, agents, nil, nil)
	}
}
