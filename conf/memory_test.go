package conf_test

import (
	"fmt"
	"slices"
	"testing"

	"spinnaker/api"
	"spinnaker/conf"
)

// R4: what is handed in stays as it was, and results are new memory.

// padded is a copy of a list with a mark in its spare capacity.
func padded[T any](l []T, mark T) []T {
	return append(slices.Clone(l), mark, mark)[:len(l)]
}

// spare is a list with what is in its spare capacity.
func spare[T any](l []T) []T {
	return l[:cap(l)]
}

// paddedLists is a copy of lists in which each one has a mark in its spare capacity.
func paddedLists[T any](l [][]T, mark T) [][]T {
	l = padded(l, []T{mark})
	for i := range l {
		l[i] = padded(l[i], mark)
	}
	return l
}

// spareLists are lists with what is in their spare capacity.
func spareLists[T any](l [][]T) [][]T {
	var all [][]T
	for _, x := range spare(l) {
		all = append(all, spare(x))
	}
	return all
}

func paddedConf(c api.Conf) api.Conf {
	return api.Conf{
		Pc:   padded(c.Pc, 91),
		Regs: paddedLists(c.Regs, 92),
		Mem:  padded(c.Mem, 93),
		Buf:  paddedLists(c.Buf, api.Entry{Loc: 94, N: 95}),
	}
}

// all is what a configuration is, with its spare capacity.
func all(c api.Conf) string {
	return written(api.Conf{Pc: spare(c.Pc), Regs: spareLists(c.Regs), Mem: spare(c.Mem), Buf: spareLists(c.Buf)})
}

// wipe overwrites a configuration, with its spare capacity.
func wipe(c api.Conf) {
	for _, l := range append(ints(c), entryLists(c)...) {
		l.wipe()
	}
	clear(spare(c.Regs))
	clear(spare(c.Buf))
}

func paddedUnit(u api.Unit) api.Unit {
	u.Init, u.Regs, u.Code = padded(u.Init, 81), padded(u.Regs, 82), paddedLists(u.Code, api.Instr{Op: 83})
	for _, l := range u.Code {
		for i := range l {
			l[i].E, l[i].F = padded(l[i].E, api.Op{Op: 84}), padded(l[i].F, api.Op{Op: 85})
		}
	}
	return u
}

// allUnit is what a unit is, with its spare capacity.
func allUnit(u api.Unit) string {
	s := fmt.Sprint(u.Mod, spare(u.Init), spare(u.Regs))
	for _, l := range spareLists(u.Code) {
		for _, x := range l {
			s += fmt.Sprint(x.Op, x.Reg, x.Loc, x.To, x.Ne, spare(x.E), spare(x.F))
		}
	}
	return s
}

func TestKeeps(t *testing.T) {
	u := paddedUnit(example(t))
	for _, c := range append(smalls(false), middle(), full(), started(t, u)) {
		a, b := paddedConf(c), paddedConf(middle())
		before := all(a) + all(b) + allUnit(u)
		conf.Start(u)
		conf.Right(u, a, api.TSO, 2)
		conf.Right(u, a, api.PSO, 2)
		conf.Same(a, b)
		conf.Copy(a)
		conf.Final(u, a)
		conf.Ended(u, a, 0)
		conf.Quiet(a)
		if after := all(a) + all(b) + allUnit(u); after != before {
			t.Fatalf("%s\n became %s", before, after)
		}
	}
}

func TestStartIsNew(t *testing.T) {
	u := paddedUnit(example(t))
	before := allUnit(u)
	first, second := started(t, u), started(t, u)
	want := written(second)
	wipe(first)
	if got := allUnit(u); got != before {
		t.Errorf("%s\n became %s", before, got)
	}
	if got := written(second); got != want {
		t.Errorf("a second start %s became %s", want, got)
	}
	clear(spare(u.Init))
	clear(spare(u.Regs))
	clear(spare(u.Code))
	if got := written(second); got != want {
		t.Errorf("with its unit, %s became %s", want, got)
	}
}

// P9.2 and P9.4: neither a copy nor what was copied shows what is changed in the other one.
func TestCopyIsNew(t *testing.T) {
	for _, c := range append(smalls(false), middle(), full(), started(t, example(t))) {
		from := paddedConf(c)
		before := all(from)
		copied := conf.Copy(from)
		if !conf.Same(from, copied) || written(copied) != written(c) {
			t.Fatalf("%v is copied as %v", from, copied)
		}
		other := conf.Copy(from)
		wipe(copied)
		if all(from) != before || written(other) != written(c) {
			t.Fatalf("%s became %s, and %v with a copy", before, all(from), other)
		}
		wipe(from)
		if written(other) != written(c) {
			t.Fatalf("the copy of %v became %v", c, other)
		}
	}
}

// What overwrites one list of a configuration, or of its copy, is seen in that one only.
func TestCopyChanged(t *testing.T) {
	for i := range append(ints(full()), entryLists(full())...) {
		for _, swapped := range []bool{false, true} {
			a := full()
			b := conf.Copy(a)
			if swapped {
				a, b = b, a
			}
			l := append(ints(a), entryLists(a)...)[i]
			was := l.text()
			l.wipe()
			if conf.Same(a, b) != (was == l.text()) || !conf.Same(b, full()) {
				t.Errorf("list %d: %v, %v", i, a, b)
			}
		}
	}
}

// list is a list of a configuration: what overwrites it, with its spare capacity, and what is
// written of it.
type list struct {
	wipe func()
	text func() string
}

func listOf[T any](l []T, mark T) list {
	over := func() {
		whole := spare(l)
		for i := range whole {
			whole[i] = mark
		}
	}
	return list{over, func() string { return fmt.Sprint(l) }}
}

// ints are the lists of numbers of a configuration.
func ints(c api.Conf) []list {
	l := []list{listOf(c.Pc, -55), listOf(c.Mem, -55)}
	for _, x := range c.Regs {
		l = append(l, listOf(x, -55))
	}
	return l
}

// entryLists are the buffers of a configuration.
func entryLists(c api.Conf) []list {
	var l []list
	for _, x := range c.Buf {
		l = append(l, listOf(x, api.Entry{Loc: -55, N: -55}))
	}
	return l
}

// No two lists of a result share memory.
func TestShares(t *testing.T) {
	u := made(t, "mod 4; loc x = 1; loc y = 2; thread t { reg a, b; } thread u { reg c, d; } thread v { reg e; }")
	b := entries(0, 1, 1, 2)
	same := []int{0, 1}
	shared := api.Conf{Pc: same, Regs: [][]int{same, same}, Mem: same, Buf: [][]api.Entry{b, b, b[:1]}}
	for what, result := range map[string]func() api.Conf{
		"Start":                      func() api.Conf { return started(t, u) },
		"Copy":                       func() api.Conf { return conf.Copy(full()) },
		"Copy of lists that share":   func() api.Conf { return conf.Copy(shared) },
		"Copy of lists with a spare": func() api.Conf { return conf.Copy(paddedConf(shared)) },
	} {
		count := len(append(ints(result()), entryLists(result())...))
		for i := range count {
			c := result()
			lists := append(ints(c), entryLists(c)...)
			var before, after []string
			for _, l := range lists {
				before = append(before, l.text())
			}
			lists[i].wipe()
			for _, l := range lists {
				after = append(after, l.text())
			}
			before[i], after[i] = "", ""
			if !slices.Equal(before, after) {
				t.Errorf("%s: with list %d, %q became %q", what, i, before, after)
			}
		}
	}
}
