package fair_test

import (
	"slices"
	"testing"

	"spinnaker/api"
	"spinnaker/fair"
)

// P18.1 to P18.4: graphs at MaxStates, and valid ones beyond it.

// isFound fails the test unless a part is n nodes from first on, each of which is by further than the one
// before it.
func isFound(t *testing.T, part []int, n, first, by int) {
	t.Helper()
	if len(part) != n {
		t.Fatalf("%d nodes are found, not %d", len(part), n)
	}
	for k, i := range part {
		if i != first+k*by {
			t.Fatalf("node %d of what is found is %d", k, i)
		}
	}
}

// ring is a graph by hand with one edge from each node to the next one, by agent 0.
func ring(n int) api.Csr {
	g := api.Csr{Start: make([]int, n+1), Agent: make([]int, n), To: make([]int, n)}
	for i := range n {
		g.Start[i+1], g.To[i] = i+1, (i+1)%n
	}
	return g
}

func TestRing(t *testing.T) {
	for _, n := range []int{10, api.MaxStates - 1, api.MaxStates, api.MaxStates + 1, 1000000} {
		g, en := ring(n), slices.Repeat(rows("+-"), n)
		for _, mode := range []int{api.Weak, api.Strong} {
			part := fair.Find(g, en, 2, mode)
			isFound(t, part, n, 0, 1)
			if !fair.Good(g, en, 2, mode, part) || fair.Good(g, en, 2, mode, part[1:]) {
				t.Errorf("%d nodes: what is Good, in mode %d", n, mode)
			}
		}
		if part := []int{n - 1, 0}; !fair.Acts(g, part, 0) || fair.Acts(g, part, 1) || fair.Acts(g, part[:1], 0) {
			t.Errorf("%d nodes: who acts", n)
		}
		en[n/2] = rows("++")[0]
		isFound(t, fair.Weak(g, en, 2), n, 0, 1)
		isFound(t, fair.Strong(g, en, 2), 0, 0, 1)
		en = slices.Repeat(rows("++"), n)
		isFound(t, fair.Weak(g, en, 2), 0, 0, 1)
		en[n-1] = rows("+-")[0]
		isFound(t, fair.Weak(g, en, 2), n, 0, 1)
		isFound(t, fair.Strong(g, en, 2), 0, 0, 1)
		en[n/2] = nil
		isFound(t, fair.Weak(g, en, 2), 0, 0, 1)
	}
}

// Many components, none of which is fair, but the last one: they are not to be examined by a search of
// the whole graph for each of them. Something is left of each.
func TestManyComponents(t *testing.T) {
	const n = api.MaxStates
	var l []api.Edge
	for i := range n / 2 {
		l = append(l, list(i, 0, n-1-i, n-1-i, 0, i, i, 0, i)...)
	}
	g := built(t, n, l)
	en := slices.Concat(slices.Repeat(rows("++-"), n/2), slices.Repeat(rows("+-+"), n/2))
	isFound(t, fair.Weak(g, en, 3), 2, 0, n-1)
	isFound(t, fair.Strong(g, en, 3), 0, 0, 1)
	en[n/2-1] = rows("+--")[0]
	isFound(t, fair.Strong(g, en, 3), 1, n/2-1, 1)
	en[n/2] = rows("+--")[0]
	isFound(t, fair.Strong(g, en, 3), 2, n/2-1, 1)
	en[n/4] = rows("+--")[0]
	isFound(t, fair.Strong(g, en, 3), 1, n/4, 1)
}

// As many layers as there can be agents: at each depth, one more agent no longer acts, as the node to
// which it leads is gone. The nodes 0 and 100 and above are in all layers.
func TestManyLayers(t *testing.T) {
	const n, agents = api.MaxStates, 100
	var l []api.Edge
	en := make([][]bool, n)
	row := func(agent int) []bool {
		enabled := make([]bool, agents)
		enabled[0], enabled[agent] = true, true
		return enabled
	}
	for i := range n {
		if en[i] = row(0); i < agents {
			l = append(l, list(0, 0, i, i, 0, 0)...)
			en[i] = row(i)
		} else {
			l = append(l, list(i, 0, (i+1)%n)...)
		}
	}
	l = append(l, list(0, 0, agents)...)
	for i := 1; i+1 < agents; i++ {
		l = append(l, list(i, i, i+1)...)
	}
	g := built(t, n, l)
	isFound(t, fair.Weak(g, en, agents), n, 0, 1)
	part := fair.Strong(g, en, agents)
	if len(part) != n-agents+1 || part[0] != 0 || part[1] != agents || !fair.Good(g, en, agents, api.Strong, part) {
		t.Errorf("%d nodes are found", len(part))
	}
	en[agents] = slices.Repeat([]bool{true}, agents)
	isFound(t, fair.Strong(g, en, agents), 1, 0, 1)
	en[0] = en[agents]
	isFound(t, fair.Strong(g, en, agents), 0, 0, 1)
}
