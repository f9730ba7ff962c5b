package scc_test

import (
	"fmt"
	"slices"
	"testing"

	"spinnaker/api"
	"spinnaker/scc"
)

// R4: what is handed in stays as it was, and results are new memory.

// padded is a copy of a list with a mark in its spare capacity.
func padded[T any](l []T, mark T) []T {
	return append(slices.Clone(l), mark, mark, mark)[:len(l)]
}

// spare is a list with what is in its spare capacity.
func spare[T any](l []T) []T {
	return l[:cap(l)]
}

// overwrite puts other elements in a list, with its spare capacity.
func overwrite[T any](l []T, mark T) {
	for i := range spare(l) {
		spare(l)[i] = mark
	}
}

func paddedGraph(g api.Csr) api.Csr {
	return api.Csr{Start: padded(g.Start, 91), Agent: padded(g.Agent, 92), To: padded(g.To, 93)}
}

// whole is what a graph is, with its spare capacity.
func whole(g api.Csr) string {
	return fmt.Sprint(spare(g.Start), spare(g.Agent), spare(g.To))
}

// graphs are the kinds of graphs that are handed in.
func graphs(t *testing.T) []api.Csr {
	t.Helper()
	return []api.Csr{
		several(t),
		built(t, 0),
		built(t, 3),
		built(t, 1, 0, 0),
		built(t, 6, 0, 5, 5, 4, 4, 3, 3, 2, 2, 1, 1, 0),
		{},
		{Start: []int{0, 1}},
		{Start: []int{0, 2, 1}, Agent: []int{0}, To: []int{0}},
		{Start: []int{0, 2}, Agent: []int{0, -1}, To: []int{0, 0}},
	}
}

func TestKeeps(t *testing.T) {
	for _, g := range graphs(t) {
		g = paddedGraph(g)
		in, part := padded(flags("ynyyyyyy"), true), padded([]int{4, 0, -1, 9, 3, 0}, 1)
		all := func() string { return whole(g) + fmt.Sprint(spare(in), spare(part)) }
		before := all()
		scc.Parts(g)
		scc.Groups(g)
		scc.Within(g, in)
		scc.Cyclic(g, part)
		if all() != before {
			t.Errorf("%s has become %s", before, all())
		}
	}
}

// fillGraph overwrites all of a graph.
func fillGraph(g api.Csr) {
	overwrite(g.Start, 77)
	overwrite(g.Agent, 78)
	overwrite(g.To, 79)
}

func TestPartsAreNew(t *testing.T) {
	for _, g := range graphs(t) {
		g = paddedGraph(g)
		first, second := scc.Parts(g), scc.Parts(g)
		before := fmt.Sprint(spare(second))
		overwrite(first, 77)
		if third := scc.Parts(g); fmt.Sprint(spare(third)) != before {
			t.Errorf("%s has become %v", before, spare(third))
		}
		fillGraph(g)
		if fmt.Sprint(spare(second)) != before {
			t.Errorf("%s has become %v", before, spare(second))
		}
	}
}

// wholeGroups is what groups are, with their spare capacity.
func wholeGroups(l [][]int) string {
	s := fmt.Sprint(len(l), cap(l))
	for _, group := range spare(l) {
		s += fmt.Sprint(spare(group))
	}
	return s
}

// areNew fails the test unless groups that are made stay as they were when what they were made of is
// overwritten, and share nothing with others, nor among themselves.
func areNew(t *testing.T, make func() [][]int, spoil func()) {
	t.Helper()
	first, second := make(), make()
	before := wholeGroups(second)
	for k, group := range spare(first) {
		overwrite(group, 1000+k)
	}
	for k, group := range spare(first) {
		for _, i := range spare(group) {
			if i != 1000+k {
				t.Errorf("%s: group %d shares memory with another one", before, k)
			}
		}
	}
	overwrite(first, []int{77})
	if third := make(); wholeGroups(third) != before {
		t.Errorf("%s has become %s", before, wholeGroups(third))
	}
	spoil()
	if wholeGroups(second) != before {
		t.Errorf("%s has become %s", before, wholeGroups(second))
	}
}

func TestGroupsAreNew(t *testing.T) {
	for _, g := range graphs(t) {
		h := paddedGraph(g)
		areNew(t, func() [][]int { return scc.Groups(h) }, func() { fillGraph(h) })
		for _, marks := range []string{"", "ynynynyny", "nyyyyyyyyy", "yyyyyyyyyyyy"} {
			h, in := paddedGraph(g), padded(flags(marks), true)
			areNew(t, func() [][]int { return scc.Within(h, in) }, func() { fillGraph(h); overwrite(in, true) })
		}
	}
}
