package trail_test

import (
	"fmt"
	"slices"
	"testing"

	"spinnaker/api"
	"spinnaker/machine"
	"spinnaker/trail"
)

// R4: what is handed in stays as it was, and results are new memory.

// padded is a copy of a list with a mark in its spare capacity.
func padded[T any](l []T, mark T) []T {
	return append(slices.Clone(l), mark, mark)[:len(l)]
}

// spare is a list with what is in its spare capacity.
func spare[T any](l []T) []T {
	return l[:cap(l)]
}

// overwrite puts other elements in a list, with its spare capacity.
func overwrite[T any](l []T, mark T) {
	for i := range spare(l) {
		spare(l)[i] = mark
	}
}

func paddedGraph(g api.Csr) api.Csr {
	return api.Csr{Start: padded(g.Start, 91), Agent: padded(g.Agent, 92), To: padded(g.To, 93)}
}

func paddedUnit(u api.Unit) api.Unit {
	u.Init, u.Regs, u.Code = padded(u.Init, 81), padded(u.Regs, 82), padded(u.Code, []api.Instr{{Op: 83}})
	for t := range u.Code {
		u.Code[t] = padded(u.Code[t], api.Instr{Op: 84})
		for i, x := range u.Code[t] {
			u.Code[t][i].E, u.Code[t][i].F = padded(x.E, api.Op{Op: 85}), padded(x.F, api.Op{Op: 86})
		}
	}
	return u
}

// allUnit is what a unit is, with its spare capacity.
func allUnit(u api.Unit) string {
	s := fmt.Sprint(u.Mod, spare(u.Init), spare(u.Regs))
	for _, l := range spare(u.Code) {
		for _, x := range spare(l) {
			s += fmt.Sprint(x.Op, x.Reg, x.Loc, x.To, x.Ne, spare(x.E), spare(x.F))
		}
	}
	return s
}

// allConf is what a configuration is, with its spare capacity.
func allConf(c api.Conf) string {
	s := fmt.Sprint(spare(c.Pc), spare(c.Mem))
	for _, l := range spare(c.Regs) {
		s += fmt.Sprint(spare(l))
	}
	for _, l := range spare(c.Buf) {
		s += fmt.Sprint(spare(l))
	}
	return s
}

// allSpace is what a space is, with its spare capacity.
func allSpace(s api.Space) string {
	text := fmt.Sprint(spare(s.G.Start), spare(s.G.Agent), spare(s.G.To), spare(s.Parent), spare(s.By))
	for _, c := range spare(s.Confs) {
		text += allConf(c)
	}
	return text
}

func fillConf(c api.Conf) {
	for _, l := range spare(c.Regs) {
		overwrite(l, 77)
	}
	for _, l := range spare(c.Buf) {
		overwrite(l, api.Entry{Loc: 77, N: 77})
	}
	overwrite(c.Pc, 77)
	overwrite(c.Mem, 77)
	overwrite(c.Regs, []int{77, 77})
	overwrite(c.Buf, make([]api.Entry, 7))
}

func fillUnit(u api.Unit) {
	for _, l := range u.Code {
		for _, x := range l {
			overwrite(x.E, api.Op{Op: 77})
			overwrite(x.F, api.Op{Op: 77})
		}
		overwrite(l, api.Instr{Op: 77})
	}
	overwrite(u.Init, 77)
	overwrite(u.Regs, 77)
	overwrite(u.Code, []api.Instr{{Op: 77}})
}

func TestKeeps(t *testing.T) {
	eachSpace(t, func(t *testing.T, u api.Unit, s api.Space, model, room int) {
		u, s.G, s.Parent, s.By = paddedUnit(u), paddedGraph(s.G), padded(s.Parent, 94), padded(s.By, 95)
		last := len(s.Confs) - 1
		path, wrong, in := padded(trail.To(s, last), 96), padded([]int{0, 0, 0, -1, 0}, 97), padded(slices.Repeat([]bool{true}, last+1), false)
		all := func() string { return allUnit(u) + allSpace(s) + fmt.Sprint(spare(path), spare(wrong), spare(in)) }
		before := all()
		for i := -1; i <= last+1; i++ {
			trail.To(s, i)
			trail.Inside(s.G, 0, i, in)
			trail.Inside(s.G, i, 0, in)
		}
		for _, l := range [][]int{path, wrong} {
			trail.Replay(u, model, room, l)
			trail.Replay(u, model, 0, l)
			trail.Follow(s.G, 0, l)
			trail.Follow(s.G, -1, l)
			trail.Parse(u, model, trail.Text(u, model, l))
		}
		if after := all(); after != before {
			t.Errorf("%s\nhas become %s", before, after)
		}
	})
}

// stays fails the test unless a list that is made stays as it was when another one is overwritten,
// and when what it was made of is.
func stays(t *testing.T, what string, make func() []int, spoil func()) {
	t.Helper()
	first, second := make(), make()
	before := slices.Clone(spare(second))
	overwrite(first, 77)
	if third := make(); !slices.Equal(spare(third), before) || !slices.Equal(spare(second), before) {
		t.Errorf("%s: %v has become %v, and another one is %v", what, before, spare(second), spare(third))
	}
	spoil()
	if !slices.Equal(spare(second), before) {
		t.Errorf("%s: with what it was made of, %v has become %v", what, before, spare(second))
	}
}

func TestPathsAreNew(t *testing.T) {
	eachSpace(t, func(t *testing.T, u api.Unit, s api.Space, model, room int) {
		for i := range s.Confs {
			s := api.Space{Confs: s.Confs, Parent: padded(s.Parent, 94), By: padded(s.By, 95)}
			stays(t, "To", func() []int { return trail.To(s, i) }, func() { overwrite(s.Parent, -1); overwrite(s.By, 78) })
			g, in := paddedGraph(s.G), padded(slices.Repeat([]bool{true}, len(s.Confs)), false)
			inside := func() []int {
				path, _ := trail.Inside(g, 0, i, in)
				return path
			}
			stays(t, "Inside", inside, func() {
				overwrite(g.Start, 77)
				overwrite(g.Agent, 77)
				overwrite(g.To, 77)
				overwrite(in, false)
			})
			u := paddedUnit(u)
			text := trail.Text(u, model, trail.To(s, i))
			parse := func() []int {
				path, _ := trail.Parse(u, model, text)
				return path
			}
			stays(t, "Parse", parse, func() { fillUnit(u) })
		}
	})
}

// places counts in how many slices each place of memory is.
type places[T any] map[*T]int

func (p places[T]) add(l []T) {
	for i := range spare(l) {
		p[&spare(l)[i]]++
	}
}

// once fails the test if a place is in several slices.
func (p places[T]) once(t *testing.T, what string) {
	t.Helper()
	for _, n := range p {
		if n != 1 {
			t.Errorf("%s: a place is in %d slices", what, n)
			return
		}
	}
}

// once fails the test if two slices of a configuration share memory.
func once(t *testing.T, c api.Conf) {
	t.Helper()
	numbers, entries := places[int]{}, places[api.Entry]{}
	for _, l := range append(slices.Clone(c.Regs), c.Pc, c.Mem) {
		numbers.add(l)
	}
	for _, l := range c.Buf {
		entries.add(l)
	}
	numbers.once(t, "numbers")
	entries.once(t, "entries")
}

// What Replay returns at the end of a path, and where it breaks off, is new.
func TestReplayIsNew(t *testing.T) {
	eachSpace(t, func(t *testing.T, u api.Unit, s api.Space, model, room int) {
		for i := range s.Confs {
			whole := trail.To(s, i)
			for _, path := range [][]int{whole, append(slices.Clone(whole), machine.Agents(u, model)), append(slices.Clone(whole), 0, 0, 0, 0)} {
				u, path := paddedUnit(u), padded(path, 96)
				first, n, e := trail.Replay(u, model, room, path)
				second, _, _ := trail.Replay(u, model, room, path)
				once(t, second)
				before := allConf(second)
				fillConf(first)
				third, thirdN, thirdE := trail.Replay(u, model, room, path)
				if allConf(third) != before || allConf(second) != before || thirdN != n || thirdE != e {
					t.Fatalf("%s has become %s, and another one is %s", before, allConf(second), allConf(third))
				}
				fillUnit(u)
				overwrite(path, 77)
				if allConf(second) != before {
					t.Fatalf("with what it was made of, %s has become %s", before, allConf(second))
				}
			}
		}
	})
}

// What is behind the end of a list is no matter.
func TestSpareIsIgnored(t *testing.T) {
	u := made(t, storing)
	if c, n, e := trail.Replay(u, api.SC, 1, []int{0, 7}[:1]); e != api.OK || n != 1 || c.Pc[0] != 1 {
		t.Errorf("%v, %d, %d", c, n, e)
	}
	g := several(t)
	if path, ok := trail.Inside(g, 0, 3, flags("yyyyy")[:3]); ok {
		t.Errorf("a way beyond the end of in: %v", path)
	}
	s := api.Space{Confs: make([]api.Conf, 2), Parent: []int{-1, 0, 1}[:2], By: []int{-1, 5, 6}[:2]}
	isPath(t, trail.To(s, 2))
	isPath(t, trail.To(s, 1), 5)
}

// Nothing is kept from call to call: each unit has its own names.
func TestUnitsAreApart(t *testing.T) {
	for range 2 {
		isText(t, plain(2, 2), api.TSO, "f0", 2)
		isText(t, plain(3, 2), api.TSO, "t2", 2)
		isText(t, plain(2, 2), api.PSO, "f0.0", 2)
		isMarked(t, plain(2, 2), api.SC, "?", 2)
	}
}
