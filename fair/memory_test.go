package fair_test

import (
	"fmt"
	"slices"
	"testing"

	"spinnaker/api"
	"spinnaker/fair"
)

// R4: what is handed in stays as it was, and results are new memory.

// padded is a copy of a list with a mark in its spare capacity.
func padded[T any](l []T, mark T) []T {
	return append(slices.Clone(l), mark, mark, mark)[:len(l)]
}

// spare is a list with what is in its spare capacity.
func spare[T any](l []T) []T {
	return l[:cap(l)]
}

// overwrite puts other elements in a list, with its spare capacity.
func overwrite[T any](l []T, mark T) {
	for i := range spare(l) {
		spare(l)[i] = mark
	}
}

// input is what is handed in.
type input struct {
	g      api.Csr
	en     [][]bool
	agents int
}

// padded has marks in all spare capacity, also in that of each row.
func (x input) padded() input {
	en := make([][]bool, len(x.en))
	for i, row := range x.en {
		en[i] = padded(row, true)
	}
	g := api.Csr{Start: padded(x.g.Start, 0), Agent: padded(x.g.Agent, 0), To: padded(x.g.To, 0)}
	return input{g, padded(en, []bool{true, false}), x.agents}
}

// text is all that is handed in, with its spare capacity.
func (x input) text() string {
	s := fmt.Sprint(spare(x.g.Start), spare(x.g.Agent), spare(x.g.To), x.agents)
	for _, row := range spare(x.en) {
		s += fmt.Sprint(len(row), spare(row))
	}
	return s
}

// spoil overwrites all that is handed in.
func (x input) spoil() {
	overwrite(x.g.Start, 77)
	overwrite(x.g.Agent, 78)
	overwrite(x.g.To, 79)
	for _, row := range spare(x.en) {
		overwrite(row, true)
	}
	overwrite(x.en, nil)
}

func inputs(t *testing.T) []input {
	t.Helper()
	l := list(0, 0, 6, 6, 0, 7, 7, 0, 6, 6, 1, 0, 7, 0, 7, 1, 0, 2, 2, 0, 3, 3, 0, 2, 3, 1, 1, 2, 0, 2)
	g := built(t, 8, l)
	all := []input{
		{g, rows("+-+", "+-+", "+--", "++-", "---", "---", "++-", "+--"), 3},
		{g, rows("+-+", "+-+", "+--", "++-", "---", "---", "+++", "+-+"), 3},
		{g, rows("++", "++", "++", "++", "--", "--", "++", "++"), 2},
		{g, rows("++", "++", "++", "+-", "--", "--", "++", "++"), 2},
		{g, rows("++", "++", "++", "+-", "--", "--", "++"), 2},
		{built(t, 1, list(0, 0, 0)), rows("+"), 1},
		{built(t, 2, nil), rows("+", "-"), 1},
		{api.Csr{Start: []int{0, 2}, Agent: []int{0}, To: []int{0}}, rows("+"), 1},
		{},
	}
	for i, x := range all {
		all[i] = x.padded()
	}
	return all
}

func TestKeeps(t *testing.T) {
	for _, x := range inputs(t) {
		before := x.text()
		part := padded([]int{7, 0, 6}, 1)
		odd := padded([]int{6, -1, 9, 7, 7}, 0)
		for mode := range 4 {
			fair.Find(x.g, x.en, x.agents, mode)
			fair.Good(x.g, x.en, x.agents, mode, part)
			fair.Good(x.g, x.en, x.agents, mode, odd)
		}
		fair.Weak(x.g, x.en, x.agents)
		fair.Strong(x.g, x.en, x.agents)
		fair.Acts(x.g, part, 0)
		fair.Acts(x.g, odd, 1)
		if x.text() != before || !slices.Equal(spare(part)[:6], []int{7, 0, 6, 1, 1, 1}) || !slices.Equal(spare(odd)[:8], []int{6, -1, 9, 7, 7, 0, 0, 0}) {
			t.Errorf("%s has become %s, with the parts %v and %v", before, x.text(), spare(part), spare(odd))
		}
	}
}

func TestFoundIsNew(t *testing.T) {
	finders := []func(x input) []int{
		func(x input) []int { return fair.Weak(x.g, x.en, x.agents) },
		func(x input) []int { return fair.Strong(x.g, x.en, x.agents) },
		func(x input) []int { return fair.Find(x.g, x.en, x.agents, api.Weak) },
		func(x input) []int { return fair.Find(x.g, x.en, x.agents, api.Strong) },
	}
	for k, find := range finders {
		found := 0
		for _, x := range inputs(t) {
			first, second := find(x), find(x)
			found += len(first)
			before := fmt.Sprint(spare(second))
			given := x.text()
			overwrite(first, 77)
			if third := find(x); fmt.Sprint(spare(third)) != before || x.text() != given {
				t.Errorf("%d: %s has become %v, %s", k, before, spare(third), x.text())
			}
			x.spoil()
			if fmt.Sprint(spare(second)) != before {
				t.Errorf("%d: %s has become %v", k, before, spare(second))
			}
		}
		if found == 0 {
			t.Errorf("%d: nothing is found", k)
		}
	}
}
