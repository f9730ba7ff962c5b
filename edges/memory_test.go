package edges_test

import (
	"fmt"
	"slices"
	"testing"

	"spinnaker/api"
	"spinnaker/edges"
)

// R4: what is handed in stays as it was, and results are new memory.

// padded is a copy of a list with a mark in its spare capacity.
func padded[T any](l []T, mark T) []T {
	return append(slices.Clone(l), mark, mark, mark)[:len(l)]
}

// spare is a list with what is in its spare capacity.
func spare[T any](l []T) []T {
	return l[:cap(l)]
}

// overwrite puts other elements in a list, with its spare capacity.
func overwrite[T any](l []T, mark T) {
	for i := range spare(l) {
		spare(l)[i] = mark
	}
}

func paddedGraph(g api.Csr) api.Csr {
	return api.Csr{Start: padded(g.Start, 91), Agent: padded(g.Agent, 92), To: padded(g.To, 93)}
}

// all is what a graph is, with its spare capacity.
func all(g api.Csr) string {
	return fmt.Sprint(spare(g.Start), spare(g.Agent), spare(g.To))
}

// fill overwrites a graph, a list after the other, and tells whether one of them showed in another.
func fill(g api.Csr) bool {
	rest := func(l ...[]int) string { return fmt.Sprint(l) }
	before := rest(spare(g.Agent), spare(g.To))
	overwrite(g.Start, 77)
	shows := rest(spare(g.Agent), spare(g.To)) != before
	before = rest(spare(g.To))
	overwrite(g.Agent, 78)
	shows = shows || rest(spare(g.To)) != before
	overwrite(g.To, 79)
	return shows
}

// graphs are the kinds of graphs that are handed in.
func graphs(t *testing.T) []api.Csr {
	t.Helper()
	return []api.Csr{
		several(t),
		built(t, 0, nil),
		built(t, 3, nil),
		built(t, 1, list(0, 0, 0)),
		built(t, 2, list(0, 3, 1, 0, 2, 1)),
		{},
		{Start: []int{0, 1}},
		{Start: []int{0, 2, 1}, Agent: []int{0}, To: []int{0}},
		{Start: []int{0, 2}, Agent: []int{0, -1}, To: []int{0, 0}},
	}
}

func TestKeeps(t *testing.T) {
	for _, g := range graphs(t) {
		g = paddedGraph(g)
		before := all(g)
		in, from := padded(flags("ynyyny"), true), padded([]int{0, -1, 9, 2, 0}, 1)
		others := fmt.Sprint(spare(in), spare(from))
		edges.Right(g)
		edges.Nodes(g)
		for i := -1; i < 7; i++ {
			edges.Out(g, i)
		}
		edges.All(g)
		edges.Back(g)
		edges.Keep(g, in)
		edges.Reach(g, from)
		if all(g) != before || fmt.Sprint(spare(in), spare(from)) != others {
			t.Errorf("%s, %s have become %s, %v %v", before, others, all(g), spare(in), spare(from))
		}
	}
	for _, numbers := range [][]int{nil, {1, 0, 0, 0, 0, 1}, {1, 0, 0, 2, 0, 0}, {0, 0, -1, 1, -1, 0}} {
		l := padded(list(numbers...), api.Edge{From: 95, Agent: 96, To: 97})
		before := fmt.Sprint(spare(l))
		edges.Build(2, l)
		edges.Build(-1, l)
		if fmt.Sprint(spare(l)) != before {
			t.Errorf("%s has become %v", before, spare(l))
		}
	}
}

// stays fails the test unless a graph that is made stays as it was when what it was made of is
// overwritten, and shares nothing with another one, nor in itself.
func stays(t *testing.T, what string, make func() api.Csr, spoil func()) {
	t.Helper()
	first, second := make(), make()
	before := all(second)
	if fill(first) {
		t.Errorf("%s: two lists of the result share memory", what)
	}
	if third := make(); !edges.Right(third) || all(third) != before || all(second) != before {
		t.Errorf("%s: %s has become %s, and another one is %s", what, before, all(second), all(third))
	}
	spoil()
	if all(second) != before {
		t.Errorf("%s: with what it was made of, %s has become %s", what, before, all(second))
	}
}

func TestGraphsAreNew(t *testing.T) {
	for i, g := range graphs(t)[:5] {
		n := len(g.Start) - 1
		l := padded(edges.All(g), api.Edge{From: 95, Agent: 96, To: 97})
		stays(t, fmt.Sprint("Build ", i), func() api.Csr { return built(t, n, l) }, func() { overwrite(l, api.Edge{From: 75, Agent: 75, To: 75}) })
		for _, in := range []string{"", "ynnyyn", "yyyyyyyy"} {
			g, in := paddedGraph(g), padded(flags(in), true)
			stays(t, fmt.Sprint("Keep ", i, in), func() api.Csr { return edges.Keep(g, in) }, func() { fill(g); overwrite(in, true) })
		}
		g := paddedGraph(g)
		stays(t, fmt.Sprint("Back ", i), func() api.Csr { return edges.Back(g) }, func() { fill(g) })
	}
}

// staysList is the same as stays for a list.
func staysList[T comparable](t *testing.T, what string, make func() []T, spoil func(), mark T) {
	t.Helper()
	first, second := make(), make()
	before := slices.Clone(spare(second))
	overwrite(first, mark)
	if third := make(); !slices.Equal(spare(third), before) || !slices.Equal(spare(second), before) {
		t.Errorf("%s: %v has become %v, and another one is %v", what, before, spare(second), spare(third))
	}
	spoil()
	if !slices.Equal(spare(second), before) {
		t.Errorf("%s: with what it was made of, %v has become %v", what, before, spare(second))
	}
}

func TestListsAreNew(t *testing.T) {
	mark := api.Edge{From: 75, Agent: 76, To: 77}
	for i, g := range graphs(t)[:5] {
		for node := range len(g.Start) - 1 {
			g := paddedGraph(g)
			staysList(t, fmt.Sprint("Out ", i, node), func() []api.Edge { return edges.Out(g, node) }, func() { fill(g) }, mark)
		}
		h := paddedGraph(g)
		staysList(t, fmt.Sprint("All ", i), func() []api.Edge { return edges.All(h) }, func() { fill(h) }, mark)
		for _, from := range [][]int{nil, {0}, {0, 1, 2, 3, 4}} {
			g, from := paddedGraph(g), padded(from, 1)
			staysList(t, fmt.Sprint("Reach ", i, from), func() []bool { return edges.Reach(g, from) }, func() { fill(g); overwrite(from, 75) }, true)
		}
	}
}
