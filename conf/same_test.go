package conf_test

import (
	"slices"
	"testing"

	"spinnaker/api"
	"spinnaker/conf"
)

// P9.2: Same.

// sameIf fails the test unless two configurations are the same exactly if want holds.
func sameIf(t *testing.T, want bool, a, b api.Conf) {
	t.Helper()
	if conf.Same(a, b) != want || conf.Same(b, a) != want {
		t.Errorf("%#v, %#v: not %v", a, b, want)
	}
}

// full is a configuration with something in each slice.
func full() api.Conf {
	return api.Conf{
		Pc:   []int{2, 0, 1},
		Regs: [][]int{{3, 0}, {}, {2}},
		Mem:  []int{1, 3},
		Buf:  [][]api.Entry{entries(1, 2, 0, 1), {}, entries(0, 3)},
	}
}

func TestSame(t *testing.T) {
	sameIf(t, true, full(), full())
	sameIf(t, false, full(), api.Conf{})
	for i, change := range []func(c *api.Conf){
		func(c *api.Conf) { c.Pc[0]++ },
		func(c *api.Conf) { c.Pc[1]-- },
		func(c *api.Conf) { c.Pc[2] = 7 },
		func(c *api.Conf) { c.Pc = c.Pc[:2] },
		func(c *api.Conf) { c.Pc = append(c.Pc, 0) },
		func(c *api.Conf) { c.Pc = nil },
		func(c *api.Conf) { c.Regs[0][0] = 4 },
		func(c *api.Conf) { c.Regs[0][1] = -1 },
		func(c *api.Conf) { c.Regs[2][0]++ },
		func(c *api.Conf) { c.Regs[0] = c.Regs[0][:1] },
		func(c *api.Conf) { c.Regs[0] = append(c.Regs[0], 0) },
		func(c *api.Conf) { c.Regs[1] = []int{0} },
		func(c *api.Conf) { c.Regs[2] = nil },
		func(c *api.Conf) { c.Regs[1], c.Regs[2] = c.Regs[2], c.Regs[1] },
		func(c *api.Conf) { c.Regs = c.Regs[:2] },
		func(c *api.Conf) { c.Regs = append(c.Regs, nil) },
		func(c *api.Conf) { c.Regs = nil },
		func(c *api.Conf) { c.Mem[0]++ },
		func(c *api.Conf) { c.Mem[1]-- },
		func(c *api.Conf) { slices.Reverse(c.Mem) },
		func(c *api.Conf) { c.Mem = c.Mem[:1] },
		func(c *api.Conf) { c.Mem = append(c.Mem, 0) },
		func(c *api.Conf) { c.Mem = nil },
		func(c *api.Conf) { c.Buf[0][0].Loc = 0 },
		func(c *api.Conf) { c.Buf[0][0].N = 3 },
		func(c *api.Conf) { c.Buf[0][1].N = 0 },
		func(c *api.Conf) { c.Buf[2][0].Loc++ },
		func(c *api.Conf) { c.Buf[2][0].N-- },
		func(c *api.Conf) { slices.Reverse(c.Buf[0]) },
		func(c *api.Conf) { c.Buf[0] = c.Buf[0][:1] },
		func(c *api.Conf) { c.Buf[0] = append(c.Buf[0], api.Entry{}) },
		func(c *api.Conf) { c.Buf[1] = []api.Entry{{}} },
		func(c *api.Conf) { c.Buf[2] = nil },
		func(c *api.Conf) { c.Buf[1], c.Buf[2] = c.Buf[2], c.Buf[1] },
		func(c *api.Conf) { c.Buf = c.Buf[:2] },
		func(c *api.Conf) { c.Buf = append(c.Buf, nil) },
		func(c *api.Conf) { c.Buf = nil },
	} {
		c := full()
		change(&c)
		sameIf(t, false, c, full())
		sameIf(t, true, c, c)
		if conf.Same(conf.Copy(c), full()) {
			t.Errorf("change %d is lost in a copy", i)
		}
	}
}

func TestSameNil(t *testing.T) {
	empty := api.Conf{Pc: []int{}, Regs: [][]int{}, Mem: []int{}, Buf: [][]api.Entry{}}
	sameIf(t, true, api.Conf{}, api.Conf{})
	sameIf(t, true, api.Conf{}, empty)
	sameIf(t, true, empty, empty)
	sameIf(t, true, api.Conf{Pc: []int{}}, api.Conf{Mem: []int{}})
	sameIf(t, true, api.Conf{Regs: [][]int{nil}, Buf: [][]api.Entry{nil}}, api.Conf{Regs: [][]int{{}}, Buf: [][]api.Entry{{}}})
	sameIf(t, false, api.Conf{Regs: [][]int{nil}}, api.Conf{}) // one list, and none
	sameIf(t, false, api.Conf{Buf: [][]api.Entry{nil}}, empty)
	c := full()
	c.Regs[1], c.Buf[1] = nil, nil
	sameIf(t, true, c, full())
	c.Pc = slices.Grow(c.Pc, 9) // what is behind the end is no matter
	c.Mem = append(c.Mem, 5)[:2]
	c.Buf[0] = append(c.Buf[0], api.Entry{})[:2]
	sameIf(t, true, c, full())
}

// smalls are many small configurations, with nil slices or with empty ones.
func smalls(empty bool) []api.Conf {
	var all []api.Conf
	p := parts{
		pc:   [][]int{nil, {0}, {1}, {0, 0}},
		regs: append(lists(2, [][]int{nil, {0}, {1}}...), [][]int{{0, 0}}, [][]int{{0, 1}, nil}),
		mem:  [][]int{nil, {0}, {1}, {0, 0}},
		buf:  append(lists(2, nil, entries(0, 0)), [][]api.Entry{entries(0, 1)}, [][]api.Entry{entries(1, 0)}, [][]api.Entry{entries(0, 0, 0, 0)}),
	}
	p.each(func(c api.Conf) {
		if empty {
			c = emptied(c)
		}
		all = append(all, c)
	})
	return all
}

// emptied is a configuration with empty slices instead of nil ones.
func emptied(c api.Conf) api.Conf {
	e := api.Conf{Pc: append([]int{}, c.Pc...), Mem: append([]int{}, c.Mem...), Regs: [][]int{}, Buf: [][]api.Entry{}}
	for _, l := range c.Regs {
		e.Regs = append(e.Regs, append([]int{}, l...))
	}
	for _, b := range c.Buf {
		e.Buf = append(e.Buf, append([]api.Entry{}, b...))
	}
	return e
}

// All pairs of small configurations are the same if and only if what is written of them is.
func TestSameAll(t *testing.T) {
	first, second := smalls(false), smalls(true)
	texts := make([]string, len(first))
	for i := range first {
		texts[i] = written(first[i])
		sameIf(t, true, first[i], conf.Copy(first[i]))
		sameIf(t, true, first[i], conf.Copy(second[i]))
	}
	for i, a := range first {
		for k, b := range second {
			if got := conf.Same(a, b); got != (texts[i] == texts[k]) {
				t.Fatalf("%s, %s: %v", texts[i], texts[k], got)
			}
		}
	}
}

// P9.4: what Start gives is valid for each model and room, and Quiet.

// grid are units of all numbers of threads, and of many numbers of registers and locations.
func grid() []api.Unit {
	var all []api.Unit
	for threads := 1; threads <= api.MaxThreads; threads++ {
		for regs := range api.MaxRegs + 1 {
			for locs := range api.MaxLocs + 1 {
				for _, mod := range []int{2, 3, 9, 16} {
					u := api.Unit{Mod: mod}
					for i := range locs {
						u.Init = append(u.Init, (i+mod-1)%mod)
					}
					for i := range threads {
						u.Regs = append(u.Regs, (regs+i)%(api.MaxRegs+1))
						u.Code = append(u.Code, append(slices.Repeat([]api.Instr{{Op: api.Fence}}, (i+locs)%3), api.Instr{Op: api.Done}))
					}
					all = append(all, u)
				}
			}
		}
	}
	return all
}

func TestStartProperties(t *testing.T) {
	for _, u := range grid() {
		c := started(t, u)
		rightEach(t, true, u, c)
		for _, model := range models {
			rightIf(t, false, u, c, model, 0)
			rightIf(t, false, u, c, model, api.MaxRoom+1)
		}
		if !conf.Quiet(c) {
			t.Errorf("%v: not quiet: %v", u, c)
		}
		ended := 0
		for i, l := range u.Code {
			if got := conf.Ended(u, c, i); got != (len(l) == 1) {
				t.Errorf("%v: thread %d has ended: %v", u, i, got)
			} else if got {
				ended++
			}
		}
		if got := conf.Final(u, c); got != (ended == len(u.Code)) {
			t.Errorf("%v: final: %v", u, got)
		}
		if d := conf.Copy(c); !conf.Same(c, d) {
			t.Errorf("%v: copied as %v", c, d)
		}
	}
}

// The start of one unit is valid for another one exactly if it has as many threads, registers and
// locations, and no Init is too great.
func TestStartElsewhere(t *testing.T) {
	units := grid()
	for i := 0; i < len(units); i += 7 {
		c := started(t, units[i])
		for k := 0; k < len(units); k += 5 {
			a, b := units[i], units[k]
			great := func(n int) bool { return n >= b.Mod }
			want := slices.Equal(a.Regs, b.Regs) && len(a.Init) == len(b.Init) && !slices.ContainsFunc(a.Init, great)
			rightIf(t, want, b, c, api.SC, 1)
			rightIf(t, want, b, c, api.PSO, 4)
		}
	}
}
