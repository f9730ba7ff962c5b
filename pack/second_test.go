package pack_test

import (
	"fmt"
	"slices"
	"strings"
	"testing"

	"spinnaker/api"
	"spinnaker/conf"
	"spinnaker/machine"
	"spinnaker/pack"
)

// P12.1, P12.2 and P12.4: for all valid configurations of small units, whose encodings are made here
// another time, for all texts near these, and for the configurations that programs reach.

// digits is the encoding of a configuration, written in hexadecimal digits.
func digits(c api.Conf) string {
	s := ""
	for t := range c.Pc {
		s += fmt.Sprintf("%04x", c.Pc[t])
		for _, n := range c.Regs[t] {
			s += fmt.Sprintf("%02x", n)
		}
		s += fmt.Sprintf("%02x", len(c.Buf[t]))
		for _, e := range c.Buf[t] {
			s += fmt.Sprintf("%02x%02x", e.Loc, e.N)
		}
	}
	for _, n := range c.Mem {
		s += fmt.Sprintf("%02x", n)
	}
	return s
}

// lists are all lists with one element of each of these.
func lists[T any](of ...[]T) [][]T {
	all := [][]T{nil}
	for _, l := range of {
		var longer [][]T
		for _, front := range all {
			for _, x := range l {
				longer = append(longer, append(slices.Clone(front), x))
			}
		}
		all = longer
	}
	return all
}

// upTo are all lists of at most length of these elements.
func upTo[T any](length int, elements []T) [][]T {
	var all [][]T
	for n := range length + 1 {
		all = append(all, lists(slices.Repeat([][]T{elements}, n)...)...)
	}
	return all
}

// numbers are all lists of so many numbers below mod.
func numbers(length, mod int) [][]int {
	var below []int
	for n := range mod {
		below = append(below, n)
	}
	return lists(slices.Repeat([][]int{below}, length)...)
}

// buffers are all valid buffers: for PSO each is put together from the queues of the locations.
func buffers(u api.Unit, model, room int) [][]api.Entry {
	var each [][]api.Entry // the entries of each location
	for loc := range u.Init {
		var l []api.Entry
		for n := range u.Mod {
			l = append(l, api.Entry{Loc: loc, N: n})
		}
		each = append(each, l)
	}
	switch model {
	case api.TSO:
		return upTo(room, slices.Concat(each...))
	case api.PSO:
		var queues [][][]api.Entry
		for _, l := range each {
			queues = append(queues, upTo(room, l))
		}
		var all [][]api.Entry
		for _, l := range lists(queues...) {
			all = append(all, slices.Concat(l...))
		}
		return all
	}
	return [][]api.Entry{nil}
}

// local is what a thread has of a configuration.
type local struct {
	pc   int
	regs []int
	buf  []api.Entry
}

func locals(u api.Unit, model, room, thread int) []local {
	var all []local
	for pc := range u.Code[thread] {
		for _, regs := range numbers(u.Regs[thread], u.Mod) {
			for _, b := range buffers(u, model, room) {
				all = append(all, local{pc, regs, b})
			}
		}
	}
	return all
}

// valid are all valid configurations of a unit, under their encodings.
func valid(t *testing.T, u api.Unit, model, room int) map[string]api.Conf {
	t.Helper()
	var threads [][]local
	for thread := range u.Code {
		threads = append(threads, locals(u, model, room, thread))
	}
	all := map[string]api.Conf{}
	for _, l := range lists(threads...) {
		for _, mem := range numbers(len(u.Init), u.Mod) {
			c := api.Conf{Mem: mem}
			for _, x := range l {
				c.Pc, c.Regs, c.Buf = append(c.Pc, x.pc), append(c.Regs, x.regs), append(c.Buf, x.buf)
			}
			s := bytes(t, digits(c))
			if other, ok := all[s]; ok {
				t.Fatalf("%v and %v have the same encoding", c, other)
			}
			all[s] = c
		}
	}
	return all
}

// decodes fails the test unless a text is decoded as the configuration that has this encoding, if
// there is one.
func decodes(t *testing.T, u api.Unit, all map[string]api.Conf, s string, model, room int) {
	t.Helper()
	want, ok := all[s]
	if !ok {
		noConf(t, u, s, model, room)
		return
	}
	if got, e := pack.Decode(u, s, model, room); e != api.OK || !conf.Same(got, want) {
		t.Errorf("model %d, room %d: %x is decoded as %v, %d, not as %v", model, room, s, got, e, want)
	}
}

// near calls a function with each text that is a change of one byte away.
func near(s string, visit func(s string)) {
	for i := 0; i <= len(s); i++ {
		for _, b := range []byte{0, 1, 2, 3, 4, 8, 127, 128, 254, 255} {
			visit(s[:i] + string([]byte{b}) + s[i:])
			if i < len(s) {
				visit(s[:i] + string([]byte{b}) + s[i+1:])
			}
		}
		if i < len(s) {
			visit(s[:i] + s[i+1:])
		}
		visit(s[:i])
	}
}

func smallUnits(t *testing.T) []api.Unit {
	t.Helper()
	var units []api.Unit
	for _, text := range []string{
		"mod 2; thread t { }",
		"mod 3; thread t { reg a, b; fence; }",
		"mod 2; loc x = 0; thread t { reg a; fence; }",
		"mod 3; loc x = 0; loc y = 0; thread t { }",
		"mod 2; loc x = 0; thread t { } thread u { reg a; }",
		"mod 2; loc x = 0; loc y = 0; thread t { fence; } thread u { }",
		"mod 2; thread t { reg a; } thread u { fence; } thread v { reg a, b; fence; }",
	} {
		units = append(units, made(t, text))
	}
	return units
}

func TestAllValid(t *testing.T) {
	for i, u := range smallUnits(t) {
		for _, model := range models {
			t.Run(fmt.Sprint(i, model), func(t *testing.T) {
				t.Parallel()
				for room := 1; room <= 2; room++ {
					all := valid(t, u, model, room)
					for s, c := range all {
						packs(t, u, c, model, room, s)
					}
					if len(all) < 2000 {
						for s := range all {
							near(s, func(other string) { decodes(t, u, all, other, model, room) })
						}
					}
				}
			})
		}
	}
}

// All texts of few bytes, for units whose encodings have no more.
func TestAllTexts(t *testing.T) {
	for _, c := range []struct {
		text         string
		room, length int
		letters      string
	}{
		{"mod 2; thread t { }", 1, 5, "\x00\x01\x02\xff"},
		{"mod 2; loc x = 0; thread t { }", 1, 7, "\x00\x01\x02\xff"},
		{"mod 2; loc x = 0; thread t { reg a; fence; }", 1, 8, "\x00\x01\x02"},
		{"mod 2; loc x = 0; thread t { reg a; fence; }", 2, 9, "\x00\x01\x02"},
		{"mod 2; loc x = 0; loc y = 0; thread t { }", 1, 9, "\x00\x01\x02"},
		{"mod 2; loc x = 0; thread t { } thread u { }", 1, 11, "\x00\x01"},
	} {
		u := made(t, c.text)
		for _, model := range models {
			t.Run(fmt.Sprint(c.text, c.room, model), func(t *testing.T) {
				t.Parallel()
				all := valid(t, u, model, c.room)
				met := 0
				for _, l := range upTo(c.length, []byte(c.letters)) {
					if _, ok := all[string(l)]; ok {
						met++
					}
					decodes(t, u, all, string(l), model, c.room)
				}
				if met != len(all) {
					t.Errorf("%d of %d encodings were tried", met, len(all))
				}
			})
		}
	}
}

// P12.4: all pairs of valid configurations, those with nil and with empty slices among them.
func TestPairs(t *testing.T) {
	u := made(t, "mod 2; loc x = 0; thread t { reg a; } thread u { fence; }")
	for _, model := range models {
		var confs []api.Conf
		for _, c := range valid(t, u, model, 1) {
			confs = append(confs, c, changed(c, func(d *api.Conf) { d.Regs[1] = []int{} }))
		}
		var texts []string
		for _, c := range confs {
			s, e := pack.Encode(u, c, model, 1)
			if e != api.OK {
				t.Fatal(c, e)
			}
			texts = append(texts, s)
		}
		for i, a := range confs {
			for j, b := range confs {
				if conf.Same(a, b) != (texts[i] == texts[j]) {
					t.Fatalf("model %d: %v and %v are encoded as %x and %x", model, a, b, texts[i], texts[j])
				}
			}
		}
	}
}

func programs() []string {
	return []string{
		"mod 2; loc x = 0; thread t { await x == 1; }",
		"mod 3; loc x = 0; loc y = 0; loc z = 1; thread t { reg a; store x = 1; store y = 2; store x = 2; fence; load a = y; store z = a; }",
		"mod 2; loc x = 0; loc y = 0; thread t { reg a; store x = 1; load a = y; } thread u { reg a; store y = 1; load a = x; }",
		"mod 4; loc x = 0; thread t { reg a; fadd a = x, 3; store x = a + 1; fence; } thread u { reg a; cas a = x, 3, 0; if a { xchg a = x, 2; } }",
		"mod 5; loc x = 4; loc y = 1; thread t { reg a; loop { store x = a; set a = a + 2; } } thread u { reg a; await x == 2; while a != 3 { load a = x; store y = a; } }",
		"mod 2; loc x = 0; loc y = 0; loc z = 0; thread s { store x = 1; store y = 1; store z = 1; } thread t { reg a; load a = z; await y != 0; fence; } thread u { reg a; xchg a = x, 1; store y = a; }",
		"mod 16; loc x = 0; thread a { reg r; load r = x; store x = r + 5; } thread b { reg r; load r = x; store x = r + 7; } thread c { reg r; fadd r = x, 11; } thread d { await x == 12; }",
		"mod 3; loc x = 0; loc y = 0; thread t { reg a; " + strings.Repeat("set a = a + 1; ", 190) + strings.Repeat("store y = a; ", 4) + "} thread u { reg a; load a = y; }",
		"mod 2; loc x = 0; thread t { reg a; " + strings.Repeat("if a == 0 { store x = 1; } else { skip; } ", 60) + "}",
	}
}

func TestReached(t *testing.T) {
	for i, text := range programs() {
		u := made(t, text)
		for _, model := range models {
			t.Run(fmt.Sprint(i, model), func(t *testing.T) {
				t.Parallel()
				for _, room := range []int{1, 2, 4} {
					reach(t, u, model, room)
				}
			})
		}
	}
}

// reach checks the configurations that a unit reaches, and that two of them have the same encoding
// only if they are the same.
func reach(t *testing.T, u api.Unit, model, room int) {
	t.Helper()
	c := started(t, u)
	known := map[string]api.Conf{bytes(t, digits(c)): c}
	for work := []api.Conf{c}; len(work) > 0 && len(known) < 1000; work = work[1:] {
		packs(t, u, work[0], model, room, bytes(t, digits(work[0])))
		for _, a := range machine.Moves(u, work[0], model, room) {
			c, _ := machine.Act(u, work[0], model, room, a)
			s, e := pack.Encode(u, c, model, room)
			if e != api.OK {
				t.Fatalf("model %d, room %d: %v is not encoded: %d", model, room, c, e)
			}
			if other, ok := known[s]; ok && !conf.Same(c, other) {
				t.Fatalf("model %d, room %d: %v and %v have the same encoding", model, room, c, other)
			} else if !ok {
				known[s] = c
				work = append(work, c)
			}
		}
	}
}
