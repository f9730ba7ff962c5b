package machine_test

import (
	"fmt"
	"math"
	"slices"
	"strings"
	"testing"

	"spinnaker/api"
	"spinnaker/lower"
	"spinnaker/machine"
)

// P11.1: Agents, Name, Number.

var others = []int{0, 4, 5, -1, -api.TSO, -api.PSO, math.MinInt, math.MaxInt} // models that there are not

// plain is a unit of so many threads and locations.
func plain(threads, locs int) api.Unit {
	return api.Unit{
		Mod:  2,
		Init: make([]int, locs),
		Regs: make([]int, threads),
		Code: slices.Repeat([][]api.Instr{{{Op: api.Done}}}, threads),
	}
}

// named is a unit and the names of all its agents, one after the other.
type named struct {
	threads, locs, model int
	names                string
}

func nameds() []named {
	return []named{
		{1, 0, api.SC, "t0"},
		{1, 0, api.TSO, "t0 f0"},
		{1, 0, api.PSO, "t0"},
		{1, 1, api.SC, "t0"},
		{1, 1, api.TSO, "t0 f0"},
		{1, 1, api.PSO, "t0 f0.0"},
		{1, 3, api.PSO, "t0 f0.0 f0.1 f0.2"},
		{2, 0, api.TSO, "t0 t1 f0 f1"},
		{2, 0, api.PSO, "t0 t1"},
		{2, 2, api.SC, "t0 t1"},
		{2, 2, api.TSO, "t0 t1 f0 f1"},
		{2, 2, api.PSO, "t0 t1 f0.0 f0.1 f1.0 f1.1"}, // the chapter's example 1
		{3, 1, api.TSO, "t0 t1 t2 f0 f1 f2"},
		{3, 1, api.PSO, "t0 t1 t2 f0.0 f1.0 f2.0"},
		{3, 2, api.PSO, "t0 t1 t2 f0.0 f0.1 f1.0 f1.1 f2.0 f2.1"},
		{2, 3, api.PSO, "t0 t1 f0.0 f0.1 f0.2 f1.0 f1.1 f1.2"},
		{4, 6, api.SC, "t0 t1 t2 t3"},
		{4, 6, api.TSO, "t0 t1 t2 t3 f0 f1 f2 f3"},
		{4, 6, api.PSO, "t0 t1 t2 t3 f0.0 f0.1 f0.2 f0.3 f0.4 f0.5 f1.0 f1.1 f1.2 f1.3 f1.4 f1.5 " +
			"f2.0 f2.1 f2.2 f2.3 f2.4 f2.5 f3.0 f3.1 f3.2 f3.3 f3.4 f3.5"},
	}
}

// checkNames fails the test unless these are the agents of a unit, in this order.
func checkNames(t *testing.T, u api.Unit, model int, names []string) {
	t.Helper()
	if got := machine.Agents(u, model); got != len(names) {
		t.Errorf("model %d, %v: %d agents, not %d", model, u, got, len(names))
	}
	for a, name := range names {
		if got := machine.Name(u, model, a); got != name {
			t.Errorf("model %d, %v: agent %d is %q, not %q", model, u, a, got, name)
		}
		if got := machine.Number(u, model, name); got != a {
			t.Errorf("model %d, %v: %q is agent %d, not %d", model, u, name, got, a)
		}
	}
	for _, a := range append([]int{-2, -1, len(names), len(names) + 1}, far...) {
		if got := machine.Name(u, model, a); got != "" {
			t.Errorf("model %d, %v: agent %d is %q", model, u, a, got)
		}
	}
}

func TestNames(t *testing.T) {
	for _, c := range nameds() {
		checkNames(t, plain(c.threads, c.locs), c.model, strings.Fields(c.names))
	}
}

// allNames are the names of all agents, by the chapter's words.
func allNames(threads, locs, model int) []string {
	var l []string
	for t := range threads {
		l = append(l, fmt.Sprintf("t%d", t))
	}
	for t := range threads {
		if model == api.TSO {
			l = append(l, fmt.Sprintf("f%d", t))
		}
		for loc := 0; model == api.PSO && loc < locs; loc++ {
			l = append(l, fmt.Sprintf("f%d.%d", t, loc))
		}
	}
	return l
}

func TestNamesOfAll(t *testing.T) {
	for threads := 1; threads <= api.MaxThreads; threads++ {
		for locs := 0; locs <= api.MaxLocs; locs++ {
			for _, model := range models {
				checkNames(t, plain(threads, locs), model, allNames(threads, locs, model))
			}
			for _, model := range others {
				checkNames(t, plain(threads, locs), model, nil)
			}
		}
	}
}

// The agents of a program do not depend on what its threads do.
func TestNamesOfPrograms(t *testing.T) {
	for _, text := range programs() {
		u := made(t, text)
		for _, model := range models {
			checkNames(t, u, model, allNames(len(u.Code), len(u.Init), model))
		}
	}
}

func TestNumberOfNoName(t *testing.T) {
	big := "340282366920938463463374607431768211456" // 2^128: 0, where only the last bits are kept
	for _, model := range append(others, models...) {
		u := plain(4, 6)
		for _, name := range []string{
			"", " ", "t", "f", "z", "0", "1", ".", "f.", "f0.", "f.0", "t4", "t5", "t9", "t10", "t11", "f4", "f9", "f10",
			"f0.6", "f3.6", "f4.0", "f4.5", "f0.9", "f0.10", "f10.0", "t4294967296", "t18446744073709551616", "t" + big, "f" + big, "f" + big + ".0", "f0." + big,
			"t00", "t01", "t03", "f00", "f01", "f00.0", "f0.00", "f01.1", "f1.01", "t000", "t0x0", "t0b0",
			"t+0", "t-0", "t-1", "t+1", "f+0", "f-0", "f-1", "f+0.0", "f0.+0", "f0.-0", "f-0.0", "f0.-1", "f-1.0",
			" t0", "t0 ", "t 0", "\tt0", "t0\n", "t0\x00", " f0", "f0 ", "f 0", " f0.0", "f0.0 ", "f 0.0", "f0 .0", "f0. 0", "t0 t1", "f0 f1",
			"t0x", "t0t", "t1e0", "f0x", "f0.0x", "t0.", "t0.0", "t1.1", "f0.0.", "f0.0.0", "f0..0", "f.0.0", "f0,0", "f0:0", "f00.", ".0", "0.0",
			"T0", "F0", "F0.0", "s0", "g0.0", "e0", "u0", "tt0", "ff0", "tf0", "ft0", "ff0.0", "t٠", "t₀", "f٠.0", "f0。0", "f0·0", "t\xff", "\x00", "t\x00", "ｔ0",
		} {
			if got := machine.Number(u, model, name); got != -1 {
				t.Errorf("model %d: %q is agent %d", model, name, got)
			}
		}
	}
}

// The names of the flushing agents of a model are no names in another one.
func TestNumberInOtherModel(t *testing.T) {
	for _, c := range []struct {
		model int
		name  string
	}{
		{api.SC, "f0"}, {api.SC, "f1"}, {api.SC, "f0.0"}, {api.SC, "f1.1"},
		{api.TSO, "f0.0"}, {api.TSO, "f1.1"}, {api.TSO, "f0.1"}, {api.TSO, "f0.-1"}, {api.TSO, "f0."},
		{api.PSO, "f0"}, {api.PSO, "f1"}, {api.PSO, "f0."},
		{0, "t0"}, {4, "t0"}, {-1, "t0"}, {4, "f0"}, {4, "f0.0"},
	} {
		for locs := range 3 {
			if got := machine.Number(plain(2, locs), c.model, c.name); got != -1 {
				t.Errorf("model %d, %d locations: %q is agent %d", c.model, locs, c.name, got)
			}
		}
	}
	// Of two threads and one location.
	for _, name := range []string{"t2", "f2.0", "f0.1", "f1.1", "f2"} {
		for _, model := range models {
			if got := machine.Number(plain(2, 1), model, name); got != -1 {
				t.Errorf("model %d: %q is agent %d", model, name, got)
			}
		}
	}
}

// texts calls a function with all texts of up to so many of these bytes.
func texts(length int, bytes string, visit func(s string)) {
	last := []string{""}
	visit("")
	for range length {
		var longer []string
		for _, s := range last {
			for i := range bytes {
				longer = append(longer, s+bytes[i:i+1])
				visit(longer[len(longer)-1])
			}
		}
		last = longer
	}
}

func TestNumberOfAllTexts(t *testing.T) {
	for _, size := range [][2]int{{1, 0}, {1, 1}, {2, 1}, {2, 3}, {3, 2}} {
		u := plain(size[0], size[1])
		for _, model := range models {
			names := allNames(size[0], size[1], model)
			texts(5, "tf.0123", func(s string) {
				if got, want := machine.Number(u, model, s), slices.Index(names, s); got != want {
					t.Fatalf("model %d, %v: %q is agent %d, not %d", model, size, s, got, want)
				}
			})
		}
	}
}

// wrong are units that are not valid.
func wrong() map[string]api.Unit {
	change := func(f func(u *api.Unit)) api.Unit {
		u := plain(2, 2)
		f(&u)
		return u
	}
	return map[string]api.Unit{
		"zero":        {},
		"no thread":   plain(0, 2),
		"threads":     plain(5, 2),
		"locations":   plain(2, 7),
		"mod 0":       change(func(u *api.Unit) { u.Mod = 0 }),
		"mod 1":       change(func(u *api.Unit) { u.Mod = 1 }),
		"mod 17":      change(func(u *api.Unit) { u.Mod = 17 }),
		"number":      change(func(u *api.Unit) { u.Init[1] = 2 }),
		"negative":    change(func(u *api.Unit) { u.Init[0] = -1 }),
		"registers":   change(func(u *api.Unit) { u.Regs[1] = 7 }),
		"fewer Regs":  change(func(u *api.Unit) { u.Regs = u.Regs[:1] }),
		"more Regs":   change(func(u *api.Unit) { u.Regs = []int{0, 0, 0} }),
		"no sequence": change(func(u *api.Unit) { u.Code = nil }),
		"empty":       change(func(u *api.Unit) { u.Code[1] = nil }),
		"no end":      change(func(u *api.Unit) { u.Code[1] = []api.Instr{{Op: api.Fence}} }),
		"location":    change(func(u *api.Unit) { u.Code[0] = []api.Instr{{Op: api.Load, Loc: 2}, {Op: api.Done}} }),
	}
}

func TestNamesOfNotValid(t *testing.T) {
	for why, u := range wrong() {
		if lower.Right(u) {
			t.Fatalf("%s: valid", why)
		}
		for _, model := range append(others, models...) {
			checkNames(t, u, model, nil)
			for a := range 30 {
				if got := machine.Name(u, model, a); got != "" {
					t.Errorf("%s, model %d: agent %d is %q", why, model, a, got)
				}
			}
			for _, name := range []string{"", "t0", "t1", "f0", "f1", "f0.0", "f1.1"} {
				if got := machine.Number(u, model, name); got != -1 {
					t.Errorf("%s, model %d: %q is agent %d", why, model, name, got)
				}
			}
		}
	}
}
