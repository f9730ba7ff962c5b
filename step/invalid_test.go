package step_test

import (
	"math"
	"testing"

	"spinnaker/api"
	"spinnaker/conf"
	"spinnaker/step"
)

// For what is not valid nothing is promised, but no call panics, and what is handed in stays.

// invalids are units and configurations that do not fit one another, or nothing at all.
func invalids(t *testing.T) ([]api.Unit, []api.Conf) {
	t.Helper()
	units := []api.Unit{{}, made(t, "mod 2; thread t { }"), threaded(t, "fence;")}
	numbers := []int{-1, 0, 1, 2, 1000, math.MinInt, math.MaxInt}
	for _, op := range []int{0, api.Set, api.Load, api.Store, api.Cas, api.Fadd, api.Xchg, api.Fence, api.Await, api.If, api.Jump, api.Branch, api.Done, -1} {
		for _, n := range numbers {
			x := api.Instr{Op: op, Reg: n, Loc: n, To: n, E: []api.Op{{Op: api.Reg, N: n}}}
			units = append(units, api.Unit{Mod: n, Code: [][]api.Instr{{x}, {x}}}, api.Unit{Mod: 4, Regs: []int{n, n}, Init: numbers, Code: [][]api.Instr{nil, {x, x}}})
		}
	}
	confs := []api.Conf{{}, middle(nil, nil, nil), middle(entries(0, 1), entries(-1, -1, 9, 9), entries(2, 0, 1, 0))}
	for _, n := range numbers {
		confs = append(confs,
			api.Conf{Pc: []int{n, n}, Regs: [][]int{{n}, {n}}, Mem: []int{n}, Buf: [][]api.Entry{nil, entries(n, n)}},
			api.Conf{Pc: []int{0, n}, Regs: [][]int{nil, nil}, Buf: [][]api.Entry{nil, nil}},
			api.Conf{Pc: []int{0, 0}, Regs: [][]int{{n}}, Mem: []int{n, n}, Buf: [][]api.Entry{entries(n, n), entries(n, n)}},
			api.Conf{Pc: []int{0, 0}, Regs: [][]int{{n}, {n, n}}, Mem: []int{n, n}},
			api.Conf{Pc: []int{0}, Regs: [][]int{{n}, {n, n}}, Mem: []int{n, n}, Buf: make([][]api.Entry, 2)},
		)
	}
	return units, confs
}

func TestInvalid(t *testing.T) {
	units, confs := invalids(t)
	for _, c := range confs {
		before := written(c)
		for _, model := range append([]int{0, 4, -1, math.MinInt, math.MaxInt}, models...) {
			for thread := -1; thread < 4; thread++ {
				for _, loc := range []int{-1, 0, 1, 9, math.MinInt, math.MaxInt} {
					step.Reads(c, thread, loc)
					if d, ok := step.Flush(c, model, thread, loc); ok != step.Flushes(c, model, thread, loc) || !ok && !conf.Same(c, d) {
						t.Errorf("Flush(%v, %d, %d, %d): %v, %v", c, model, thread, loc, d, ok)
					}
				}
				for i, u := range units {
					room := i % 6
					if d, ok := step.Act(u, c, model, room, thread); ok != step.Enabled(u, c, model, room, thread) || !ok && !conf.Same(c, d) {
						t.Errorf("Act(%v, %v, %d, %d, %d): %v, %v", u, c, model, room, thread, d, ok)
					}
				}
			}
		}
		if written(c) != before {
			t.Errorf("%s has become %v", before, c)
		}
	}
}
