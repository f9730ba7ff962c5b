package scc_test

import (
	"slices"
	"testing"

	"spinnaker/api"
	"spinnaker/scc"
)

// P17.1 to P17.3: graphs at MaxStates, and valid ones beyond it. The longest path is longer than calls
// can be nested.

// row is a graph by hand, in which an edge leads from each node to the next one, and from each one of
// the nodes in back an edge to the node that it has there.
func row(n int, back map[int]int) api.Csr {
	g := api.Csr{Start: []int{0}}
	for i := range n {
		if to, is := back[i]; is {
			g.To = append(g.To, to)
		}
		if i+1 < n {
			g.To = append(g.To, i+1)
		}
		g.Start = append(g.Start, len(g.To))
	}
	g.Agent = make([]int, len(g.To))
	return g
}

// isRow checks that the groups of a row begin at these nodes, one after the other.
func isRow(t *testing.T, groups [][]int, n int, firsts func(k int) int, count int) {
	t.Helper()
	if len(groups) != count {
		t.Fatalf("%d nodes: %d groups, not %d", n, len(groups), count)
	}
	for k, group := range groups {
		first, end := firsts(k), n
		if k+1 < count {
			end = firsts(k + 1)
		}
		if len(group) != end-first {
			t.Fatalf("%d nodes: group %d has %d", n, k, len(group))
		}
		for i, node := range group {
			if node != first+i {
				t.Fatalf("%d nodes: node %d of group %d is %d", n, i, k, node)
			}
		}
	}
}

func TestRow(t *testing.T) {
	for _, n := range []int{10, 1000, api.MaxStates - 1, api.MaxStates, api.MaxStates + 1, 3000000} {
		alone := func(k int) int { return k }
		isRow(t, scc.Groups(row(n, nil)), n, alone, n)
		ring := row(n, map[int]int{n - 1: 0})
		isRow(t, scc.Groups(ring), n, alone, 1)
		two := row(n, map[int]int{n - 1: n / 2, n/2 - 1: 0, n / 3: n / 4})
		isRow(t, scc.Groups(two), n, func(k int) int { return k * (n / 2) }, 2)
		in := slices.Repeat([]bool{true}, n)
		isRow(t, scc.Within(two, in), n, func(k int) int { return k * (n / 2) }, 2)
		isRow(t, scc.Within(ring, in[:n-1]), n-1, alone, n-1)
		isRow(t, scc.Within(ring, in), n, alone, 1)
		if !scc.Cyclic(ring, []int{0, n - 1, n}) || scc.Cyclic(ring, []int{0, n - 2, n}) {
			t.Errorf("%d nodes: the ends of a ring", n)
		}
	}
}

// Edges back from each node to the one before it: each edge is to be followed, and all nodes are in one
// component.
func TestBackAndForth(t *testing.T) {
	const n = api.MaxStates
	back := map[int]int{}
	for i := range n {
		back[i] = max(0, i-1)
	}
	g := row(n, back)
	isRow(t, scc.Groups(g), n, func(int) int { return 0 }, 1)
	delete(back, n/2)
	g = row(n, back)
	isRow(t, scc.Groups(g), n, func(k int) int { return k * (n / 2) }, 2)
	in := slices.Repeat([]bool{true, false}, n/2)
	if groups := scc.Within(g, in); len(groups) != n/2 || !slices.Equal(groups[7], []int{14}) {
		t.Errorf("every other node: %d groups", len(groups))
	}
}

// A node with edges to all others, many times: its edges must not be followed again from the first one
// each time that the search comes back to it, nor when it is in a list many times.
func TestStar(t *testing.T) {
	const n, times = 50000, 6
	g := api.Csr{Start: []int{0}}
	for range times {
		for i := range n {
			g.To = append(g.To, (i+1)%n)
		}
	}
	for i := range n {
		if i > 0 && i%2 == 0 {
			g.To = append(g.To, 0)
		}
		g.Start = append(g.Start, len(g.To))
	}
	g.Start[1] = n * times
	g.Agent = make([]int, len(g.To))
	groups := scc.Groups(g)
	if len(groups) != 1+n/2 || len(groups[0]) != n/2 || groups[0][3] != 6 || !slices.Equal(groups[9], []int{17}) {
		t.Fatalf("%d groups, of which the first one has %d nodes", len(groups), len(groups[0]))
	}
	in := make([]bool, n)
	in[0], in[1], in[4] = true, true, true
	if l := scc.Within(g, in); !same(l, [][]int{{0, 4}, {1}}) {
		t.Errorf("within 0, 1 and 4 there are %v", l)
	}
	leaves := slices.Repeat([]int{1, 3, 5}, 100000)
	if scc.Cyclic(g, leaves) || !scc.Cyclic(g, append(leaves, 0)) {
		t.Error("the leaves")
	}
	g.To = slices.DeleteFunc(g.To, func(i int) bool { return i == 0 })
	g.Agent, g.Start = g.Agent[:len(g.To)], slices.Repeat([]int{len(g.To)}, n+1)
	g.Start[0] = 0
	if scc.Cyclic(g, slices.Repeat([]int{0}, 300000)) {
		t.Error("the middle")
	}
}
