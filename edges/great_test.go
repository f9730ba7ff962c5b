package edges_test

import (
	"slices"
	"testing"

	"spinnaker/api"
	"spinnaker/edges"
)

// P14.1 to P14.3: graphs at MaxStates, and valid ones beyond it, which Build does not make.

// path is a graph by hand, in which an edge leads from each node to the next one.
func path(n int) api.Csr {
	g := api.Csr{Start: []int{0}}
	for i := range n - 1 {
		g.Start, g.Agent, g.To = append(g.Start, i+1), append(g.Agent, i%3), append(g.To, i+1)
	}
	g.Start = append(g.Start, n-1)
	return g
}

// isPath checks a path, and what becomes of it.
func isPath(t *testing.T, g api.Csr, n int) {
	t.Helper()
	if !edges.Right(g) || edges.Nodes(g) != n {
		t.Fatalf("a path of %d nodes is not right, or has %d", n, edges.Nodes(g))
	}
	isList(t, edges.Out(g, n-2), n-2, (n-2)%3, n-1)
	isList(t, edges.Out(g, n-1))
	isList(t, edges.Out(g, n))
	l := edges.All(g)
	b := edges.Back(g)
	in := make([]bool, n)
	in[n-3], in[n-1], in[n-2] = true, true, true
	k := edges.Keep(g, in)
	if len(l) != n-1 || edges.Nodes(b) != n || edges.Nodes(k) != n {
		t.Fatalf("%d edges; %d nodes the other way round, and %d kept", len(l), edges.Nodes(b), edges.Nodes(k))
	}
	for i, e := range l {
		if e != (api.Edge{From: i, Agent: i % 3, To: i + 1}) {
			t.Fatalf("edge %d of the path is %v", i, e)
		}
	}
	isList(t, edges.Out(b, n-1), n-1, (n-2)%3, n-2)
	isList(t, edges.Out(b, 0))
	isList(t, edges.All(k), n-3, (n-3)%3, n-2, n-2, (n-2)%3, n-1)
	for _, first := range []int{0, 1, n / 2, n - 1} {
		for i, is := range edges.Reach(g, []int{first}) {
			if is != (i >= first) {
				t.Fatalf("from %d of the path, reaching %d is %t", first, i, is)
			}
		}
		for i, is := range edges.Reach(b, []int{first}) {
			if is != (i <= first) {
				t.Fatalf("from %d of the path, reaching %d backwards is %t", first, i, is)
			}
		}
	}
}

func TestPath(t *testing.T) {
	for _, n := range []int{3, 1000, api.MaxStates - 1, api.MaxStates, api.MaxStates + 1, api.MaxStates + 2, 3000000} {
		isPath(t, path(n), n)
		l := edges.All(path(n))
		slices.Reverse(l)
		if n > api.MaxStates {
			noBuild(t, n, nil)
			noBuild(t, n, l[:3])
			continue
		}
		isPath(t, built(t, n, l), n)
	}
}

// A node from which all others are reached, and which is reached from all others, many times each.
func TestStar(t *testing.T) {
	const n, times = 50000, 4
	var l []api.Edge
	for i := range n * times {
		l = append(l, api.Edge{From: 7, Agent: i, To: i % n}, api.Edge{From: n - 1 - i%n, Agent: i, To: 7})
	}
	g := built(t, n, l)
	if len(edges.Out(g, 7)) != n*times+times || len(edges.Out(edges.Back(g), 7)) != n*times+times || len(edges.Out(g, 8)) != times {
		t.Errorf("%d edges of the middle, and %d beside it", len(edges.Out(g, 7)), len(edges.Out(g, 8)))
	}
	for _, first := range []int{0, 7, n - 1} {
		if slices.Contains(edges.Reach(g, []int{first}), false) || slices.Contains(edges.Reach(edges.Back(g), []int{first}), false) {
			t.Errorf("from %d not all are reached", first)
		}
	}
}
