package step_test

import (
	"fmt"
	"slices"
	"testing"

	"spinnaker/api"
	"spinnaker/step"
)

// R4: what is handed in stays as it was, and results are new memory.

// padded is a copy of a list with a mark in its spare capacity.
func padded[T any](l []T, mark T) []T {
	return append(slices.Clone(l), mark, mark)[:len(l)]
}

// spare is a list with what is in its spare capacity.
func spare[T any](l []T) []T {
	return l[:cap(l)]
}

// paddedLists is a copy of lists in which each one has a mark in its spare capacity.
func paddedLists[T any](l [][]T, mark T) [][]T {
	l = padded(l, []T{mark})
	for i := range l {
		l[i] = padded(l[i], mark)
	}
	return l
}

// spareLists are lists with what is in their spare capacity.
func spareLists[T any](l [][]T) [][]T {
	var all [][]T
	for _, x := range spare(l) {
		all = append(all, spare(x))
	}
	return all
}

func paddedConf(c api.Conf) api.Conf {
	return api.Conf{
		Pc:   padded(c.Pc, 91),
		Regs: paddedLists(c.Regs, 92),
		Mem:  padded(c.Mem, 93),
		Buf:  paddedLists(c.Buf, api.Entry{Loc: 94, N: 95}),
	}
}

// all is what a configuration is, with its spare capacity.
func all(c api.Conf) string {
	return written(api.Conf{Pc: spare(c.Pc), Regs: spareLists(c.Regs), Mem: spare(c.Mem), Buf: spareLists(c.Buf)})
}

// fill overwrites a configuration, with its spare capacity.
func fill(c api.Conf) {
	fillInts := func(l []int) {
		for i := range spare(l) {
			spare(l)[i] = 77
		}
	}
	fillInts(c.Pc)
	fillInts(c.Mem)
	for _, l := range spare(c.Regs) {
		fillInts(l)
	}
	for _, l := range spare(c.Buf) {
		for i := range spare(l) {
			spare(l)[i] = api.Entry{Loc: 77, N: 77}
		}
	}
	for i := range spare(c.Regs) {
		spare(c.Regs)[i] = make([]int, 7)
	}
	for i := range spare(c.Buf) {
		spare(c.Buf)[i] = make([]api.Entry, 7)
	}
}

func paddedUnit(u api.Unit) api.Unit {
	u.Init, u.Regs, u.Code = padded(u.Init, 81), padded(u.Regs, 82), paddedLists(u.Code, api.Instr{Op: 83})
	for _, l := range u.Code {
		for i := range l {
			l[i].E, l[i].F = padded(l[i].E, api.Op{Op: 84}), padded(l[i].F, api.Op{Op: 85})
		}
	}
	return u
}

// allUnit is what a unit is, with its spare capacity.
func allUnit(u api.Unit) string {
	s := fmt.Sprint(u.Mod, spare(u.Init), spare(u.Regs))
	for _, l := range spareLists(u.Code) {
		for _, x := range l {
			s += fmt.Sprint(x.Op, x.Reg, x.Loc, x.To, x.Ne, spare(x.E), spare(x.F))
		}
	}
	return s
}

// bodies have an instruction of each kind.
func bodies() []string {
	return []string{
		"", "set a = b + 2;", "load a = y;", "store x = a;", "store z = b;", "cas a = x, 1, 2;", "cas a = x, 2, 2;", "fadd b = y, 3;",
		"xchg a = z, 0;", "fence;", "await x == 1;", "await x != 1;", "loop { }", "if a { fence; }", "if !a { fence; }",
	}
}

// threeBuffers are buffers that are valid for a model.
func threeBuffers(model int) [][]api.Entry {
	if model == api.SC {
		return [][]api.Entry{nil}
	}
	return [][]api.Entry{nil, entries(0, 3), entries(0, 2, 0, 0, 1, 3, 2, 1)}
}

// eachPadded calls a function with all of these, for each model, and fails the test if what is
// handed in changes, or what is returned does when that is overwritten.
func eachPadded(t *testing.T, call func(u api.Unit, c api.Conf, model int) []api.Conf) {
	t.Helper()
	for _, body := range bodies() {
		for _, model := range models {
			for _, b := range threeBuffers(model) {
				for _, other := range threeBuffers(model) {
					u, c := paddedUnit(threaded(t, body)), paddedConf(middle(other, b, other))
					unit, before := allUnit(u), all(c)
					results := call(u, c, model)
					if allUnit(u) != unit || all(c) != before {
						t.Errorf("%s, model %d, %v: %v", body, model, b, c)
					}
					var wants []string
					for _, d := range results {
						wants = append(wants, all(d))
					}
					fill(c)
					after := all(c)
					for i, d := range results {
						if all(d) != wants[i] {
							t.Errorf("%s, model %d, %v: result %d has become %v", body, model, b, i, d)
						}
						fill(d)
					}
					if all(c) != after {
						t.Errorf("%s, model %d, %v: %v has become %v", body, model, b, after, c)
					}
				}
			}
		}
	}
}

func TestActMemory(t *testing.T) {
	eachPadded(t, func(u api.Unit, c api.Conf, model int) []api.Conf {
		var l []api.Conf
		for _, thread := range []int{1, 0, 2, 1, -1, 3} {
			step.Enabled(u, c, model, 4, thread)
			d, _ := step.Act(u, c, model, 4, thread)
			l = append(l, d)
		}
		return l
	})
}

func TestFlushMemory(t *testing.T) {
	eachPadded(t, func(u api.Unit, c api.Conf, model int) []api.Conf {
		var l []api.Conf
		for _, thread := range []int{1, 0, 2, -1, 3} {
			for loc := -1; loc < 4; loc++ {
				step.Reads(c, thread, loc)
				step.Flushes(c, model, thread, loc)
				d, _ := step.Flush(c, model, thread, loc)
				l = append(l, d)
			}
		}
		return l
	})
}

// No two slices of one result share memory: each number can be changed alone.
func TestSlicesOfOneResult(t *testing.T) {
	check := func(d api.Conf) {
		t.Helper()
		lists := [][]int{spare(d.Pc), spare(d.Mem)}
		for _, l := range d.Regs {
			lists = append(lists, spare(l))
		}
		seen := map[*int]bool{}
		for _, l := range lists {
			for i := range l {
				if seen[&l[i]] {
					t.Errorf("%v: one number is in two slices", d)
				}
				seen[&l[i]] = true
			}
		}
		waiting := map[*api.Entry]bool{}
		for _, l := range d.Buf {
			for i := range spare(l) {
				if waiting[&spare(l)[i]] {
					t.Errorf("%v: one entry is in two slices", d)
				}
				waiting[&spare(l)[i]] = true
			}
		}
	}
	for _, body := range bodies() {
		u := threaded(t, body)
		for _, model := range models {
			for _, b := range threeBuffers(model) {
				d, _ := step.Act(u, middle(b, b, b), model, 4, 1)
				check(d)
				d, _ = step.Flush(middle(b, b, b), model, 1, 0)
				check(d)
			}
		}
	}
}

// R5: the same call has the same result.
func TestAgain(t *testing.T) {
	for _, body := range bodies() {
		u := threaded(t, body)
		for _, model := range models {
			for _, b := range threeBuffers(model) {
				c := middle(b, b, b)
				first, ok := step.Act(u, c, model, 4, 1)
				second, again := step.Act(u, c, model, 4, 1)
				if ok != again || written(first) != written(second) {
					t.Errorf("%s: %v, %v and %v, %v", body, first, ok, second, again)
				}
			}
		}
	}
}
