package step_test

import (
	"fmt"
	"slices"
	"testing"

	"spinnaker/api"
	"spinnaker/step"
)

// P10.1 to P10.4: all instructions of a few expressions in all small configurations, against steps
// of another make.

// small is what a thread with two registers sees of a configuration with two locations. The stores
// that wait are those of the thread, in the order in which they are laid out.
type small struct {
	mod, model, room int
	pc               int
	regs, mem        [2]int
	waiting          []api.Entry
}

// does is a statement, and what it does, if it is possible.
type does struct {
	text string
	do   func(s *small) bool
}

// of are the numbers that wait for a location, the oldest one first.
func (s *small) of(loc int) []int {
	var l []int
	for _, e := range s.waiting {
		if e.Loc == loc {
			l = append(l, e.N)
		}
	}
	return l
}

func (s *small) reads(loc int) int {
	l := append([]int{s.mem[loc]}, s.of(loc)...)
	return l[len(l)-1]
}

// stores is whether a store is possible, which it then makes.
func (s *small) stores(loc, n int) bool {
	e := api.Entry{Loc: loc, N: n}
	switch {
	case s.model == api.SC:
		s.mem[loc] = n
	case s.model == api.TSO && len(s.waiting) < s.room:
		s.waiting = append(s.waiting, e)
	case s.model == api.PSO && len(s.of(loc)) < s.room:
		s.waiting = append(s.waiting, e)
		slices.SortStableFunc(s.waiting, func(a, b api.Entry) int { return a.Loc - b.Loc })
	default:
		return false
	}
	return true
}

// flushes is whether a store to the location can be flushed, which it then is.
func (s *small) flushes(loc int) bool {
	for i, e := range s.waiting {
		first := s.model == api.TSO && i == 0 && (e.Loc == loc || loc == -1)
		if first || s.model == api.PSO && e.Loc == loc {
			s.mem[e.Loc] = e.N
			s.waiting = slices.Delete(s.waiting, i, i+1)
			return true
		}
	}
	return false
}

// term is an expression.
type term struct {
	text  string
	value func(regs [2]int) int // not yet modulo mod, but not negative
}

func terms() []term {
	return []term{
		{"1", func([2]int) int { return 1 }},
		{"a", func(r [2]int) int { return r[0] }},
		{"b + 1", func(r [2]int) int { return r[1] + 1 }},
	}
}

func (e term) of(s *small) int {
	return e.value(s.regs) % s.mod
}

// statements are those of all kinds, with all registers, locations and expressions.
func statements() []does {
	l := []does{
		{"", func(s *small) bool { return false }},
		{"fence;", func(s *small) bool { s.pc = 1; return len(s.waiting) == 0 }},
		{"loop { }", func(s *small) bool { return true }},
		{"if 1 { fence; } else { fence; }", func(s *small) bool { s.pc = 1; return true }},
	}
	for loc, name := range []string{"x", "y"} {
		for _, e := range terms() {
			l = append(l, statementsOf(loc, name, e)...)
		}
		for reg, to := range []string{"a", "b"} {
			l = append(l, does{"load " + to + " = " + name + ";", func(s *small) bool { s.pc, s.regs[reg] = 1, s.reads(loc); return true }})
		}
	}
	for _, e := range terms() {
		l = append(l, does{"while " + e.text + " { fence; fence; }", func(s *small) bool {
			s.pc = map[bool]int{true: 4, false: 1}[e.of(s) == 0]
			return true
		}})
		for reg, to := range []string{"a", "b"} {
			l = append(l, does{"set " + to + " = " + e.text + ";", func(s *small) bool { s.pc, s.regs[reg] = 1, e.of(s); return true }})
		}
	}
	return l
}

// statementsOf are those of a location and an expression.
func statementsOf(loc int, name string, e term) []does {
	l := []does{
		{"store " + name + " = " + e.text + ";", func(s *small) bool { s.pc = 1; return s.stores(loc, e.of(s)) }},
		{"await " + name + " == " + e.text + ";", func(s *small) bool { s.pc = 1; return s.reads(loc) == e.of(s) }},
		{"await " + name + " != " + e.text + ";", func(s *small) bool { s.pc = 1; return s.reads(loc) != e.of(s) }},
	}
	for reg, to := range []string{"a", "b"} {
		exchange := func(text string, mem func(s *small, old int) int) {
			l = append(l, does{fmt.Sprintf(text, to, name, e.text), func(s *small) bool {
				old := s.mem[loc]
				s.mem[loc] = mem(s, old)
				s.pc, s.regs[reg] = 1, old
				return len(s.waiting) == 0
			}})
		}
		exchange("fadd %s = %s, %s;", func(s *small, old int) int { return (old + e.of(s)) % s.mod })
		exchange("xchg %s = %s, %s;", func(s *small, old int) int { return e.of(s) })
		for _, f := range terms() {
			exchange("cas %s = %s, %s, "+f.text+";", func(s *small, old int) int {
				if old != e.of(s) {
					return old
				}
				return f.of(s)
			})
		}
	}
	return l
}

// conf is the configuration in which another thread, number 0, has these stores waiting.
func (s *small) conf(other []api.Entry) api.Conf {
	return api.Conf{Pc: []int{0, s.pc}, Regs: [][]int{nil, s.regs[:]}, Mem: s.mem[:], Buf: [][]api.Entry{other, s.waiting}}
}

// buffers are all buffers of two locations.
func buffers(mod, model, room int) [][]api.Entry {
	queues := func(locs ...int) [][]api.Entry {
		all, longest := [][]api.Entry{nil}, [][]api.Entry{nil}
		for range room {
			var longer [][]api.Entry
			for _, b := range longest {
				for _, loc := range locs {
					for n := range mod {
						longer = append(longer, append(slices.Clone(b), api.Entry{Loc: loc, N: n}))
					}
				}
			}
			all, longest = append(all, longer...), longer
		}
		return all
	}
	switch model {
	case api.SC:
		return [][]api.Entry{nil}
	case api.TSO:
		return queues(0, 1)
	}
	var both [][]api.Entry
	for _, first := range queues(0) {
		for _, second := range queues(1) {
			both = append(both, slices.Concat(first, second))
		}
	}
	return both
}

// smalls calls a function with all of that modulus, model and room.
func smalls(mod, model, room int, visit func(s small)) {
	for _, b := range buffers(mod, model, room) {
		for i := range mod * mod * mod * mod {
			digit := func(place int) int { return i / place % mod }
			visit(small{mod, model, room, 0, [2]int{digit(1), digit(mod)}, [2]int{digit(mod * mod), digit(mod * mod * mod)}, b})
		}
	}
}

func (s small) copied() small {
	s.waiting = slices.Clone(s.waiting)
	return s
}

func TestSecond(t *testing.T) {
	for _, c := range []struct{ mod, model, room int }{
		{2, api.SC, 1}, {2, api.TSO, 1}, {2, api.TSO, 2}, {2, api.PSO, 1}, {2, api.PSO, 2}, {3, api.SC, 4}, {3, api.TSO, 1}, {3, api.PSO, 1},
	} {
		t.Run(fmt.Sprint(c), func(t *testing.T) {
			t.Parallel()
			for _, d := range statements() {
				u := made(t, fmt.Sprintf("mod %d; loc x = 0; loc y = 1; thread s { } thread t { reg a, b; %s }", c.mod, d.text))
				smalls(c.mod, c.model, c.room, func(s small) { checkStep(t, u, d, s) })
			}
			smalls(c.mod, c.model, c.room, func(s small) { checkBuffer(t, s) })
		})
	}
}

// others are the stores of the other thread.
func (s *small) others() []api.Entry {
	if s.model == api.SC {
		return nil
	}
	return []api.Entry{{Loc: s.regs[0] % 2, N: 1}}
}

func checkStep(t *testing.T, u api.Unit, d does, s small) {
	after := s.copied()
	ok := d.do(&after)
	if !ok {
		after = s
	}
	c := s.conf(s.others())
	got, can := step.Act(u, c, s.model, s.room, 1)
	if can != ok || step.Enabled(u, c, s.model, s.room, 1) != ok || written(got) != written(after.conf(s.others())) {
		t.Errorf("%s: model %d, room %d, %v\n got %v, %v\nwant %v, %v", d.text, s.model, s.room, c, got, can, after.conf(s.others()), ok)
	}
}

func checkBuffer(t *testing.T, s small) {
	c := s.conf(s.others())
	for loc := range 2 {
		if got := step.Reads(c, 1, loc); got != s.reads(loc) {
			t.Errorf("%v: reads %d from %d", c, got, loc)
		}
	}
	for loc := -1; loc < 3; loc++ {
		after := s.copied()
		ok := after.flushes(loc)
		got, can := step.Flush(c, s.model, 1, loc)
		if can != ok || step.Flushes(c, s.model, 1, loc) != ok || written(got) != written(after.conf(s.others())) {
			t.Errorf("model %d, location %d, %v\n got %v, %v\nwant %v, %v", s.model, loc, c, got, can, after.conf(s.others()), ok)
		}
	}
}
