package pack_test

import (
	"fmt"
	"slices"
	"strings"
	"testing"

	"spinnaker/api"
	"spinnaker/conf"
	"spinnaker/pack"
)

// R4: what is handed in stays as it was, and results are new memory.

// padded is a copy of a list with a mark in its spare capacity.
func padded[T any](l []T, mark T) []T {
	return append(slices.Clone(l), mark, mark)[:len(l)]
}

// spare is a list with what is in its spare capacity.
func spare[T any](l []T) []T {
	return l[:cap(l)]
}

// paddedLists is a copy of lists in which each one has a mark in its spare capacity.
func paddedLists[T any](l [][]T, mark T) [][]T {
	l = padded(l, []T{mark})
	for i := range l {
		l[i] = padded(l[i], mark)
	}
	return l
}

// spareLists are lists with what is in their spare capacity.
func spareLists[T any](l [][]T) [][]T {
	var all [][]T
	for _, x := range spare(l) {
		all = append(all, spare(x))
	}
	return all
}

func paddedConf(c api.Conf) api.Conf {
	return api.Conf{
		Pc:   padded(c.Pc, 91),
		Regs: paddedLists(c.Regs, 92),
		Mem:  padded(c.Mem, 93),
		Buf:  paddedLists(c.Buf, api.Entry{Loc: 94, N: 95}),
	}
}

// all is what a configuration is, with its spare capacity.
func all(c api.Conf) string {
	return fmt.Sprint(spare(c.Pc), spareLists(c.Regs), spare(c.Mem), spareLists(c.Buf))
}

func paddedUnit(u api.Unit) api.Unit {
	u.Init, u.Regs, u.Code = padded(u.Init, 81), padded(u.Regs, 82), paddedLists(u.Code, api.Instr{Op: 83})
	for _, l := range u.Code {
		for i := range l {
			l[i].E, l[i].F = padded(l[i].E, api.Op{Op: 84}), padded(l[i].F, api.Op{Op: 85})
		}
	}
	return u
}

// allUnit is what a unit is, with its spare capacity.
func allUnit(u api.Unit) string {
	s := fmt.Sprint(u.Mod, spare(u.Init), spare(u.Regs))
	for _, l := range spareLists(u.Code) {
		for _, x := range l {
			s += fmt.Sprint(x.Op, x.Reg, x.Loc, x.To, x.Ne, spare(x.E), spare(x.F))
		}
	}
	return s
}

// overwrite puts other elements in a list, with its spare capacity.
func overwrite[T any](l []T, mark T) {
	for i := range spare(l) {
		spare(l)[i] = mark
	}
}

// fill overwrites a configuration, with its spare capacity.
func fill(c api.Conf) {
	for _, l := range spare(c.Regs) {
		overwrite(l, 77)
	}
	for _, l := range spare(c.Buf) {
		overwrite(l, api.Entry{Loc: 77, N: 77})
	}
	overwrite(c.Pc, 77)
	overwrite(c.Mem, 77)
	overwrite(c.Regs, []int{77, 77})
	overwrite(c.Buf, make([]api.Entry, 7))
}

// fillUnit overwrites a unit, with its spare capacity.
func fillUnit(u api.Unit) {
	for _, l := range spare(u.Code) {
		overwrite(l, api.Instr{Op: 77})
	}
	overwrite(u.Init, 77)
	overwrite(u.Regs, 77)
	overwrite(u.Code, []api.Instr{{Op: 77}})
}

// kinds are configurations of the example, with empty and with other buffers.
func kinds() []api.Conf {
	return []api.Conf{
		middle(),
		middle(entries(0, 1), nil, nil),
		middle(entries(0, 3, 0, 1, 1, 2, 1, 0), entries(0, 0, 1, 1), entries(1, 3)),
		{Pc: []int{0, 0, 0}, Regs: [][]int{{0, 0}, {}, {0}}, Mem: []int{0, 0}, Buf: [][]api.Entry{{}, {}, {}}},
	}
}

func TestKeeps(t *testing.T) {
	u := paddedUnit(example(t))
	unit := allUnit(u)
	confs := append(kinds(), api.Conf{}, middle(entries(9, 9)))
	for _, change := range strange() {
		confs = append(confs, changed(middle(), change))
	}
	for _, c := range confs {
		c = paddedConf(c)
		before := all(c)
		for _, model := range models {
			for _, room := range []int{0, 1, 4} {
				s, _ := pack.Encode(u, c, model, room)
				pack.Decode(u, s, model, room)
				pack.Decode(u, s+"\x00", model, room)
				pack.Size(c)
			}
		}
		if all(c) != before || allUnit(u) != unit {
			t.Fatalf("%s\nhas become %s,\nor %s\n%s", before, all(c), unit, allUnit(u))
		}
	}
}

// An encoding stays when what was encoded is overwritten.
func TestEncodeIsNew(t *testing.T) {
	for _, c := range kinds() {
		u, c := paddedUnit(example(t)), paddedConf(c)
		s, e := pack.Encode(u, c, api.PSO, 4)
		want := strings.Clone(s)
		first, _ := pack.Encode(u, c, api.PSO, 4)
		fill(c)
		fillUnit(u)
		if e != api.OK || s != want || first != want {
			t.Errorf("%x, %d has become %x, and another one %x", want, e, s, first)
		}
	}
}

// What is decoded stays when the unit is overwritten, and what was decoded before or afterwards; and
// none of these shows what is changed in it.
func TestDecodeIsNew(t *testing.T) {
	for _, c := range kinds() {
		u := paddedUnit(example(t))
		unit := allUnit(u)
		s, _ := pack.Encode(u, c, api.PSO, 4)
		text := strings.Clone(s)
		first, e := pack.Decode(u, s, api.PSO, 4)
		if e != api.OK || !conf.Same(first, c) {
			t.Fatalf("%v, %d", first, e)
		}
		second, _ := pack.Decode(u, s, api.PSO, 4)
		before := all(second)
		fill(first)
		third, _ := pack.Decode(u, s, api.PSO, 4)
		if all(second) != before || !conf.Same(third, c) || s != text || allUnit(u) != unit {
			t.Errorf("%s has become %s, %v, %x or %s", before, all(second), third, s, allUnit(u))
		}
		fillUnit(u)
		if all(second) != before {
			t.Errorf("with its unit, %s has become %s", before, all(second))
		}
	}
}

// No two slices of one result share memory.
func TestSlicesOfOneResult(t *testing.T) {
	u := example(t)
	for _, c := range kinds() {
		s, _ := pack.Encode(u, c, api.PSO, 4)
		d, e := pack.Decode(u, s, api.PSO, 4)
		if e != api.OK {
			t.Fatal(c, e)
		}
		numbers, waiting := map[*int]int{}, map[*api.Entry]int{}
		for _, l := range append(slices.Clone(d.Regs), d.Pc, d.Mem) {
			for i := range spare(l) {
				numbers[&spare(l)[i]]++
			}
		}
		for _, l := range d.Buf {
			for i := range spare(l) {
				waiting[&spare(l)[i]]++
			}
		}
		for p, n := range numbers {
			if n != 1 {
				t.Errorf("the number %d of %v is in %d slices", *p, d, n)
			}
		}
		for p, n := range waiting {
			if n != 1 {
				t.Errorf("the entry %v of %v is in %d slices", *p, d, n)
			}
		}
	}
}

// Where nothing is decoded, nothing of it is handed out.
func TestDecodeOfOthersIsNew(t *testing.T) {
	u := example(t)
	s := bytes(t, "0002 03 00 00 0000 00 0001 02 00 01 03")
	for _, text := range []string{"", s[:9], s + "\x00", "\x01" + s[1:]} {
		c, e := pack.Decode(u, text, api.SC, 1)
		if e != api.ErrForm || all(c) != "[] [] [] []" {
			t.Errorf("%x: %s, %d", text, all(c), e)
		}
	}
}
