package machine_test

import (
	"math"
	"testing"

	"spinnaker/api"
	"spinnaker/conf"
	"spinnaker/machine"
)

// For what is not valid nothing is promised, but no call panics, and what is handed in stays.

var odd = []int{-1, 0, 1, 2, 5, 1000, math.MinInt, math.MaxInt}

// oddUnits are units of all kinds of instructions, with numbers that can be no index.
func oddUnits(t *testing.T) []api.Unit {
	t.Helper()
	units := []api.Unit{{}, {Init: odd}, made(t, "mod 2; thread t { }"), plain(2, 2), plain(0, 6), plain(9, 0)}
	for _, op := range []int{0, api.Set, api.Load, api.Store, api.Cas, api.Fadd, api.Xchg, api.Fence, api.Await, api.If, api.Jump, api.Branch, api.Done, -1} {
		for _, n := range odd {
			x := api.Instr{Op: op, Reg: n, Loc: n, To: n, E: []api.Op{{Op: api.Reg, N: n}}}
			units = append(units,
				api.Unit{Mod: n, Code: [][]api.Instr{{x}, {x}}},
				api.Unit{Mod: 4, Regs: []int{n, n}, Init: []int{n, n}, Code: [][]api.Instr{nil, {x, x}, {x}}},
			)
		}
	}
	return units
}

func oddConfs() []api.Conf {
	confs := []api.Conf{{}, middle([]int{0, 0, 0}, nil, nil, nil), middle([]int{0, 1, 9}, entries(0, 1), entries(-1, -1, 9, 9), entries(2, 0, 1, 0))}
	for _, n := range odd {
		confs = append(confs,
			api.Conf{Pc: []int{n, n}, Regs: [][]int{{n}, {n}}, Mem: []int{n}, Buf: [][]api.Entry{nil, entries(n, n)}},
			api.Conf{Pc: []int{0, 0, 0}, Regs: [][]int{{n}}, Mem: []int{n, n}, Buf: [][]api.Entry{entries(n, n), entries(0, n), entries(1, n)}},
			api.Conf{Pc: []int{0, 0}, Regs: [][]int{{n}, {n, n}}, Mem: []int{n, n}},
			api.Conf{Pc: []int{0}, Regs: [][]int{nil, {n, n}}, Buf: make([][]api.Entry, 2)},
		)
	}
	return confs
}

func TestInvalid(t *testing.T) {
	units, confs := oddUnits(t), oddConfs()
	for i, u := range units {
		unit := allUnit(u)
		for _, c := range confs {
			before := written(c)
			for _, model := range append([]int{0, 4, -1}, models...) {
				room := odd[i%len(odd)]
				machine.Moves(u, c, model, room)
				machine.Dead(u, c, model, room)
				for _, a := range []int{-1, 0, 1, 2, 3, 4, 5, 9, math.MinInt, math.MaxInt} {
					d, ok := machine.Act(u, c, model, room, a)
					if ok != machine.Enabled(u, c, model, room, a) || !ok && !conf.Same(c, d) {
						t.Errorf("Act(%v, %v, %d, %d, %d): %v, %v", u, c, model, room, a, d, ok)
					}
				}
			}
			if written(c) != before || allUnit(u) != unit {
				t.Errorf("%s has become %v, or %s %v", before, c, unit, u)
			}
		}
	}
}
