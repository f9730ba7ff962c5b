package machine_test

import (
	"fmt"
	"slices"
	"testing"

	"spinnaker/api"
	"spinnaker/machine"
)

// R4: what is handed in stays as it was, and results are new memory.

// padded is a copy of a list with a mark in its spare capacity.
func padded[T any](l []T, mark T) []T {
	return append(slices.Clone(l), mark, mark)[:len(l)]
}

// spare is a list with what is in its spare capacity.
func spare[T any](l []T) []T {
	return l[:cap(l)]
}

// paddedLists is a copy of lists in which each one has a mark in its spare capacity.
func paddedLists[T any](l [][]T, mark T) [][]T {
	l = padded(l, []T{mark})
	for i := range l {
		l[i] = padded(l[i], mark)
	}
	return l
}

// spareLists are lists with what is in their spare capacity.
func spareLists[T any](l [][]T) [][]T {
	var all [][]T
	for _, x := range spare(l) {
		all = append(all, spare(x))
	}
	return all
}

func paddedConf(c api.Conf) api.Conf {
	return api.Conf{
		Pc:   padded(c.Pc, 91),
		Regs: paddedLists(c.Regs, 92),
		Mem:  padded(c.Mem, 93),
		Buf:  paddedLists(c.Buf, api.Entry{Loc: 94, N: 95}),
	}
}

// all is what a configuration is, with its spare capacity.
func all(c api.Conf) string {
	return written(api.Conf{Pc: spare(c.Pc), Regs: spareLists(c.Regs), Mem: spare(c.Mem), Buf: spareLists(c.Buf)})
}

func paddedUnit(u api.Unit) api.Unit {
	u.Init, u.Regs, u.Code = padded(u.Init, 81), padded(u.Regs, 82), paddedLists(u.Code, api.Instr{Op: 83})
	for _, l := range u.Code {
		for i := range l {
			l[i].E, l[i].F = padded(l[i].E, api.Op{Op: 84}), padded(l[i].F, api.Op{Op: 85})
		}
	}
	return u
}

// allUnit is what a unit is, with its spare capacity.
func allUnit(u api.Unit) string {
	s := fmt.Sprint(u.Mod, spare(u.Init), spare(u.Regs))
	for _, l := range spareLists(u.Code) {
		for _, x := range l {
			s += fmt.Sprint(x.Op, x.Reg, x.Loc, x.To, x.Ne, spare(x.E), spare(x.F))
		}
	}
	return s
}

// overwrite puts other elements in a list, with its spare capacity.
func overwrite[T any](l []T, mark T) {
	for i := range spare(l) {
		spare(l)[i] = mark
	}
}

// fill overwrites a configuration, with its spare capacity.
func fill(c api.Conf) {
	for _, l := range spare(c.Regs) {
		overwrite(l, 77)
	}
	for _, l := range spare(c.Buf) {
		overwrite(l, api.Entry{Loc: 77, N: 77})
	}
	overwrite(c.Pc, 77)
	overwrite(c.Mem, 77)
	overwrite(c.Regs, []int{77, 77})
	overwrite(c.Buf, make([]api.Entry, 7))
}

// eachKind calls a function for all models with a unit in which thread 0 has each kind of
// instructions, in configurations with empty and other buffers.
func eachKind(t *testing.T, call func(u api.Unit, c api.Conf, model int)) {
	t.Helper()
	for _, body := range []string{
		"", "set a = a + 2;", "load a = y;", "store x = a;", "store z = 1;", "cas a = x, 1, 2;", "fadd a = y, 3;",
		"xchg a = z, 0;", "fence;", "await x == 1;", "await x != 1;", "loop { }", "if a { fence; }",
	} {
		u := made(t, "mod 4; loc x = 1; loc y = 2; loc z = 3; thread s { reg a; "+body+" } thread t { fence; } thread u { await y == 2; }")
		for _, model := range models {
			for _, b := range [][]api.Entry{nil, entries(0, 3), entries(0, 2, 0, 0, 1, 3, 2, 1)} {
				for _, other := range [][]api.Entry{nil, entries(1, 2, 2, 1)} {
					if model != api.SC || len(b)+len(other) == 0 {
						call(u, middle([]int{0, 0, 0}, b, other, other), model)
					}
				}
			}
		}
	}
}

func TestMemory(t *testing.T) {
	eachKind(t, func(u api.Unit, c api.Conf, model int) {
		u, c = paddedUnit(u), paddedConf(c)
		unit, before := allUnit(u), all(c)
		var results []api.Conf
		var wants []string
		for a := -1; a <= machine.Agents(u, model); a++ {
			machine.Enabled(u, c, model, 4, a)
			d, _ := machine.Act(u, c, model, 4, a)
			results, wants = append(results, d), append(wants, all(d))
			machine.Number(u, model, machine.Name(u, model, a))
		}
		moves := machine.Moves(u, c, model, 4)
		wantMoves := slices.Clone(spare(moves))
		machine.Dead(u, c, model, 4)
		if allUnit(u) != unit || all(c) != before {
			t.Errorf("model %d: %s has become %v", model, before, c)
		}

		fill(c)
		overwrite(u.Init, 77)
		overwrite(u.Regs, 77)
		after := all(c)
		for i, d := range results {
			if all(d) != wants[i] {
				t.Errorf("model %d: %s has become %v", model, wants[i], d)
			}
			fill(d)
		}
		if !slices.Equal(spare(moves), wantMoves) {
			t.Errorf("model %d: %v has become %v", model, wantMoves, moves)
		}
		overwrite(moves, 77)
		if all(c) != after {
			t.Errorf("model %d: %s has become %v", model, after, c)
		}
	})
}

// A list that is returned is a new one each time.
func TestMovesAgain(t *testing.T) {
	eachKind(t, func(u api.Unit, c api.Conf, model int) {
		first := machine.Moves(u, c, model, 4)
		want := slices.Clone(first)
		overwrite(first, 77)
		if got := machine.Moves(u, c, model, 4); !slices.Equal(got, want) {
			t.Errorf("model %d, %v: %v, and then %v", model, c, want, got)
		}
	})
}

// each calls a function with the places of a list and its spare capacity.
func each[T any](l []T, visit func(p *T)) {
	for i := range spare(l) {
		visit(&spare(l)[i])
	}
}

// No two slices of one result share memory.
func TestSlicesOfOneResult(t *testing.T) {
	eachKind(t, func(u api.Unit, c api.Conf, model int) {
		for a := -1; a <= machine.Agents(u, model); a++ {
			d, _ := machine.Act(u, c, model, 4, a)
			numbers, waiting := map[*int]int{}, map[*api.Entry]int{}
			count := func(p *int) { numbers[p]++ }
			each(d.Pc, count)
			each(d.Mem, count)
			for _, l := range d.Regs {
				each(l, count)
			}
			for _, l := range d.Buf {
				each(l, func(p *api.Entry) { waiting[p]++ })
			}
			for p, n := range numbers {
				if n != 1 {
					t.Errorf("model %d, agent %d: the number %d of %v is in %d slices", model, a, *p, d, n)
				}
			}
			for p, n := range waiting {
				if n != 1 {
					t.Errorf("model %d, agent %d: the entry %v of %v is in %d slices", model, a, *p, d, n)
				}
			}
		}
	})
}
