package explore_test

import (
	"fmt"
	"slices"
	"testing"

	"spinnaker/api"
	"spinnaker/explore"
)

// R4: what is handed in stays as it was, and results are new memory.

// padded is a copy of a list with a mark in its spare capacity.
func padded[T any](l []T, mark T) []T {
	return append(slices.Clone(l), mark, mark)[:len(l)]
}

// spare is a list with what is in its spare capacity.
func spare[T any](l []T) []T {
	return l[:cap(l)]
}

// paddedLists is a copy of lists in which each one has a mark in its spare capacity.
func paddedLists[T any](l [][]T, mark T) [][]T {
	l = padded(l, []T{mark})
	for i := range l {
		l[i] = padded(l[i], mark)
	}
	return l
}

// spareLists are lists with what is in their spare capacity.
func spareLists[T any](l [][]T) [][]T {
	var all [][]T
	for _, x := range spare(l) {
		all = append(all, spare(x))
	}
	return all
}

func paddedConf(c api.Conf) api.Conf {
	return api.Conf{
		Pc:   padded(c.Pc, 91),
		Regs: paddedLists(c.Regs, 92),
		Mem:  padded(c.Mem, 93),
		Buf:  paddedLists(c.Buf, api.Entry{Loc: 94, N: 95}),
	}
}

// allConf is what a configuration is, with its spare capacity.
func allConf(c api.Conf) string {
	return fmt.Sprint(spare(c.Pc), spareLists(c.Regs), spare(c.Mem), spareLists(c.Buf))
}

func paddedSpace(s api.Space) api.Space {
	s.Confs = padded(s.Confs, api.Conf{Pc: []int{96}})
	for i, c := range s.Confs {
		s.Confs[i] = paddedConf(c)
	}
	s.G = api.Csr{Start: padded(s.G.Start, 97), Agent: padded(s.G.Agent, 98), To: padded(s.G.To, 99)}
	s.Parent, s.By = padded(s.Parent, 100), padded(s.By, 101)
	return s
}

// allSpace is what a space is, with its spare capacity.
func allSpace(s api.Space) string {
	text := fmt.Sprint(spare(s.G.Start), spare(s.G.Agent), spare(s.G.To), spare(s.Parent), spare(s.By))
	for _, c := range spare(s.Confs) {
		text += allConf(c)
	}
	return text
}

func paddedUnit(u api.Unit) api.Unit {
	u.Init, u.Regs, u.Code = padded(u.Init, 81), padded(u.Regs, 82), paddedLists(u.Code, api.Instr{Op: 83})
	for _, l := range u.Code {
		for i := range l {
			l[i].E, l[i].F = padded(l[i].E, api.Op{Op: 84}), padded(l[i].F, api.Op{Op: 85})
		}
	}
	return u
}

// allUnit is what a unit is, with its spare capacity.
func allUnit(u api.Unit) string {
	s := fmt.Sprint(u.Mod, spare(u.Init), spare(u.Regs))
	for _, l := range spareLists(u.Code) {
		for _, x := range l {
			s += fmt.Sprint(x.Op, x.Reg, x.Loc, x.To, x.Ne, spare(x.E), spare(x.F))
		}
	}
	return s
}

// overwrite puts other elements in a list, with its spare capacity.
func overwrite[T any](l []T, mark T) {
	for i := range spare(l) {
		spare(l)[i] = mark
	}
}

// fillConf overwrites a configuration, with its spare capacity.
func fillConf(c api.Conf) {
	for _, l := range spare(c.Regs) {
		overwrite(l, 77)
	}
	for _, l := range spare(c.Buf) {
		overwrite(l, api.Entry{Loc: 77, N: 77})
	}
	overwrite(c.Pc, 77)
	overwrite(c.Mem, 77)
	overwrite(c.Regs, []int{77, 77})
	overwrite(c.Buf, make([]api.Entry, 7))
}

func fillSpace(s api.Space) {
	for _, c := range spare(s.Confs) {
		fillConf(c)
	}
	overwrite(s.Confs, api.Conf{Pc: []int{77}})
	for _, l := range [][]int{s.G.Start, s.G.Agent, s.G.To, s.Parent, s.By} {
		overwrite(l, 77)
	}
}

func fillUnit(u api.Unit) {
	for _, l := range spare(u.Code) {
		for _, x := range l {
			overwrite(x.E, api.Op{Op: 77})
			overwrite(x.F, api.Op{Op: 77})
		}
		overwrite(l, api.Instr{Op: 77})
	}
	overwrite(u.Init, 77)
	overwrite(u.Regs, 77)
	overwrite(u.Code, []api.Instr{{Op: 77}})
}

// every calls a function with the units of some programs, of which one has all kinds of instructions.
func every(t *testing.T, call func(t *testing.T, u api.Unit, model int)) {
	t.Helper()
	for i, text := range []string{
		"mod 2; thread t { }",
		"mod 2; loc x = 1; thread t { await x == 0; }",
		"mod 2; loc x = 1; thread t { loop { } }",
		"mod 4; loc x = 0; loc y = 3; thread t { reg a, b; store x = a + 1; store y = 2; store x = 2; fence; } thread u { reg a; load a = y; await x != a; }",
		"mod 3; loc x = 0; thread t { reg a; fadd a = x, 2; cas a = x, 2, a + 1; if a { set a = a * a; } else { xchg a = x, 1; } loop { store x = 2; } }",
	} {
		for _, model := range models {
			t.Run(fmt.Sprint(i, model), func(t *testing.T) { call(t, made(t, text), model) })
		}
	}
}

func TestKeeps(t *testing.T) {
	every(t, func(t *testing.T, u api.Unit, model int) {
		s, u := paddedSpace(spaceOf(t, u, model, 2, 1000)), paddedUnit(u)
		unit, before := allUnit(u), allSpace(s)
		for _, budget := range []int{0, 1, 5, 1000} {
			explore.All(u, model, 2, budget)
			explore.All(u, model, 0, budget)
		}
		explore.Enabled(u, s, model, 2)
		explore.Finals(u, s)
		explore.Deads(u, s, model, 2)
		for _, c := range append(slices.Clone(s.Confs), api.Conf{Pc: []int{9}}) {
			c = paddedConf(c)
			text := allConf(c)
			explore.Find(s, c)
			if allConf(c) != text {
				t.Fatalf("%s has become %s", text, allConf(c))
			}
		}
		if allUnit(u) != unit || allSpace(s) != before {
			t.Errorf("%s\nhas become %s,\nor %s\n%s", unit, allUnit(u), before, allSpace(s))
		}
	})
}

// A space stays when its unit is overwritten, and another space of it.
func TestAllIsNew(t *testing.T) {
	every(t, func(t *testing.T, u api.Unit, model int) {
		other := paddedUnit(u)
		first, second := spaceOf(t, other, model, 2, 1000), spaceOf(t, other, model, 2, 1000)
		before, want := allSpace(second), written(second)
		fillSpace(first)
		third := spaceOf(t, other, model, 2, 1000)
		if allSpace(second) != before || written(third) != want || allUnit(other) != allUnit(paddedUnit(u)) {
			t.Errorf("%s\nhas become %s,\nand another one is %s", before, allSpace(second), written(third))
		}
		fillUnit(other)
		if allSpace(second) != before {
			t.Errorf("with its unit, %s\nhas become %s", before, allSpace(second))
		}
	})
}

// places counts in how many slices each place of memory is.
type places[T any] map[*T]int

func (p places[T]) add(l []T) {
	for i := range spare(l) {
		p[&spare(l)[i]]++
	}
}

// once fails the test if a place is in several slices.
func (p places[T]) once(t *testing.T, what string) {
	t.Helper()
	for _, n := range p {
		if n != 1 {
			t.Errorf("%s: a place is in %d slices", what, n)
			return
		}
	}
}

// No two slices of one result share memory.
func TestSlicesOfOneResult(t *testing.T) {
	every(t, func(t *testing.T, u api.Unit, model int) {
		s := spaceOf(t, u, model, 2, 1000)
		numbers, waiting, lists, buffers := places[int]{}, places[api.Entry]{}, places[[]int]{}, places[[]api.Entry]{}
		for _, l := range [][]int{s.G.Start, s.G.Agent, s.G.To, s.Parent, s.By} {
			numbers.add(l)
		}
		for _, c := range s.Confs {
			for _, l := range append(slices.Clone(c.Regs), c.Pc, c.Mem) {
				numbers.add(l)
			}
			for _, b := range c.Buf {
				waiting.add(b)
			}
			lists.add(c.Regs)
			buffers.add(c.Buf)
		}
		numbers.once(t, "numbers")
		waiting.once(t, "entries")
		lists.once(t, "registers")
		buffers.once(t, "buffers")
		rows := places[bool]{}
		for _, row := range explore.Enabled(u, s, model, 2) {
			rows.add(row)
		}
		rows.once(t, "rows")
	})
}

// The lists that are returned are new ones each time.
func TestListsAreNew(t *testing.T) {
	every(t, func(t *testing.T, u api.Unit, model int) {
		s := spaceOf(t, u, model, 2, 1000)
		before := written(s)
		table := explore.Enabled(u, s, model, 2)
		want := marks(table)
		for _, row := range table {
			overwrite(row, true)
		}
		overwrite(table, nil)
		finals, deads := explore.Finals(u, s), explore.Deads(u, s, model, 2)
		wantLists := fmt.Sprint(finals, deads)
		overwrite(finals, 77)
		overwrite(deads, 77)
		got := fmt.Sprint(explore.Finals(u, s), explore.Deads(u, s, model, 2))
		if marks(explore.Enabled(u, s, model, 2)) != want || got != wantLists || written(s) != before {
			t.Errorf("%s, %s have become %s, %s", want, wantLists, marks(explore.Enabled(u, s, model, 2)), got)
		}
	})
}

// What was asked of a space stays when the space is overwritten.
func TestListsAreApart(t *testing.T) {
	every(t, func(t *testing.T, u api.Unit, model int) {
		s := spaceOf(t, u, model, 2, 1000)
		table, finals, deads := explore.Enabled(u, s, model, 2), explore.Finals(u, s), explore.Deads(u, s, model, 2)
		before := fmt.Sprint(table, finals, deads)
		fillSpace(s)
		if after := fmt.Sprint(table, finals, deads); after != before {
			t.Errorf("%s has become %s", before, after)
		}
	})
}
