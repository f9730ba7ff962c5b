package machine_test

import (
	"fmt"
	"slices"
	"testing"

	"spinnaker/api"
	"spinnaker/conf"
	"spinnaker/machine"
	"spinnaker/step"
	"spinnaker/store"
)

// P11.2 to P11.4: in all configurations that programs reach, and in all valid ones of small units.

func programs() []string {
	return []string{
		"mod 2; thread t { }",
		"mod 2; loc x = 0; thread t { loop { } }",
		"mod 2; loc x = 0; thread t { await x == 1; }",
		"mod 3; loc x = 0; loc y = 0; loc z = 1; thread t { reg a; store x = 1; store y = 2; store x = 2; fence; load a = y; store z = a; }",
		"mod 2; loc x = 0; loc y = 0; thread t { reg a; store x = 1; load a = y; } thread u { reg a; store y = 1; load a = x; }",
		"mod 2; loc x = 0; loc y = 0; thread t { await x == 1; store y = 1; } thread u { await y == 1; store x = 1; }",
		"mod 3; loc x = 0; loc y = 0; thread t { store x = 1; store y = 1; store x = 2; } thread u { reg a; load a = y; await x == a + 1; }",
		"mod 4; loc x = 0; thread t { reg a; fadd a = x, 3; store x = a + 1; fence; } thread u { reg a; cas a = x, 3, 0; if a { xchg a = x, 2; } }",
		"mod 5; loc x = 4; loc y = 1; thread t { reg a; loop { store x = a; set a = a + 2; } } thread u { reg a; await x == 2; while a != 3 { load a = x; store y = a; } }",
		"mod 2; loc x = 0; loc y = 0; loc z = 0; thread s { store x = 1; store y = 1; store z = 1; } thread t { reg a; load a = z; await y != 0; fence; } thread u { reg a; xchg a = x, 1; store y = a; }",
		"mod 16; loc x = 0; thread a { reg r; load r = x; store x = r + 5; } thread b { reg r; load r = x; store x = r + 7; } thread c { reg r; fadd r = x, 11; } thread d { await x == 12; }",
	}
}

// steps is what an agent does, by the steps of layer 10.
type steps struct {
	enabled bool
	to      api.Conf
}

// stepsOf are those of all agents, in their order.
func stepsOf(u api.Unit, c api.Conf, model, room int) []steps {
	var l []steps
	for t := range u.Code {
		d, _ := step.Act(u, c, model, room, t)
		l = append(l, steps{step.Enabled(u, c, model, room, t), d})
	}
	for t := range u.Code {
		var locs []int
		switch model {
		case api.TSO:
			locs = []int{-1}
		case api.PSO:
			locs = []int{0, 1, 2, 3, 4, 5}[:len(u.Init)]
		}
		for _, loc := range locs {
			d, _ := step.Flush(c, model, t, loc)
			l = append(l, steps{step.Flushes(c, model, t, loc), d})
		}
	}
	return l
}

// check fails the test unless all that the chapter promises holds in a valid configuration, and
// returns the configurations to which steps lead.
func check(t *testing.T, u api.Unit, c api.Conf, model, room int) []api.Conf {
	t.Helper()
	if !conf.Right(u, c, model, room) {
		t.Fatalf("model %d, room %d: %v is not valid", model, room, c)
	}
	var nexts []api.Conf
	var want []int
	all := stepsOf(u, c, model, room)
	for a, s := range all {
		if s.enabled {
			want, nexts = append(want, a), append(nexts, s.to)
		}
		d, ok := machine.Act(u, c, model, room, a)
		if ok != s.enabled || machine.Enabled(u, c, model, room, a) != s.enabled || !conf.Same(d, s.to) {
			t.Fatalf("model %d, room %d, agent %d at %v\n got %v, %v\nwant %v, %v", model, room, a, c, d, ok, s.to, s.enabled)
		}
	}
	for _, a := range []int{-1, len(all)} {
		enabled(t, u, c, model, room, a, false)
	}
	if got := machine.Moves(u, c, model, room); !slices.Equal(got, want) {
		t.Fatalf("model %d, room %d: from %v move %v, not %v", model, room, c, got, want)
	}
	checkDead(t, u, c, model, room, len(want) == 0)
	for _, d := range nexts {
		if !conf.Right(u, d, model, room) {
			t.Fatalf("model %d, room %d: a step leads from %v to %v", model, room, c, d)
		}
	}
	return nexts
}

// checkDead fails the test unless Dead is right of a configuration, and, if it is dead, that has
// the properties.
func checkDead(t *testing.T, u api.Unit, c api.Conf, model, room int, stuck bool) {
	t.Helper()
	got := machine.Dead(u, c, model, room)
	if want := stuck && !conf.Final(u, c); got != want {
		t.Fatalf("model %d, room %d, %v: dead: %v", model, room, c, got)
	}
	if !got {
		return
	}
	for thread, l := range u.Code {
		op := l[c.Pc[thread]].Op
		if len(c.Buf[thread]) > 0 || op != api.Await && op != api.Done {
			t.Fatalf("model %d, room %d, %v: dead, with thread %d at %d", model, room, c, thread, op)
		}
	}
}

func TestReached(t *testing.T) {
	deads := 0
	for _, text := range programs() {
		u := made(t, text)
		for _, model := range models {
			for _, room := range []int{1, 2, 4} {
				start := started(t, u)
				known := map[string]bool{written(start): true}
				for work := []api.Conf{start}; len(work) > 0 && len(known) < 2000; work = work[1:] {
					if machine.Dead(u, work[0], model, room) {
						deads++
					}
					for _, d := range check(t, u, work[0], model, room) {
						if !known[written(d)] {
							known[written(d)] = true
							work = append(work, d)
						}
					}
				}
			}
		}
	}
	if deads == 0 {
		t.Error("nothing is dead")
	}
}

// lists are all lists with one element of each of these.
func lists[T any](of ...[]T) [][]T {
	all := [][]T{nil}
	for _, l := range of {
		var longer [][]T
		for _, front := range all {
			for _, x := range l {
				longer = append(longer, append(slices.Clone(front), x))
			}
		}
		all = longer
	}
	return all
}

// local is what a thread has of a configuration.
type local struct {
	pc   int
	regs []int
	buf  []api.Entry
}

// bits are all lists of so many numbers that are 0 or 1.
func bits(length int) [][]int {
	return lists(slices.Repeat([][]int{{0, 1}}, length)...)
}

// locals are all that a thread can have, with a buffer of up to two entries.
func locals(u api.Unit, model, room, thread int) []local {
	var entry []api.Entry
	for loc := range u.Init {
		entry = append(entry, entries(loc, 0, loc, 1)...)
	}
	buffers := slices.Concat([][]api.Entry{nil}, lists(entry), lists(entry, entry))
	buffers = slices.DeleteFunc(buffers, func(b []api.Entry) bool { return !store.Right(b, model, room, 2, len(u.Init)) })
	var all []local
	for pc := range u.Code[thread] {
		for _, regs := range bits(u.Regs[thread]) {
			for _, b := range buffers {
				all = append(all, local{pc, regs, b})
			}
		}
	}
	return all
}

// eachValid calls a function with all valid configurations of a unit with the modulus 2, with up to
// two entries in each buffer.
func eachValid(u api.Unit, model, room int, visit func(c api.Conf)) {
	var threads [][]local
	for thread := range u.Code {
		threads = append(threads, locals(u, model, room, thread))
	}
	for _, l := range lists(threads...) {
		var c api.Conf
		for _, x := range l {
			c.Pc, c.Regs, c.Buf = append(c.Pc, x.pc), append(c.Regs, x.regs), append(c.Buf, x.buf)
		}
		for _, mem := range bits(len(u.Init)) {
			c.Mem = mem
			visit(c)
		}
	}
}

func TestAllValid(t *testing.T) {
	for _, text := range []string{
		"mod 2; loc x = 0; thread t { store x = 1; fence; await x == 0; }",
		"mod 2; loc x = 0; loc y = 0; thread t { reg a; await y != a; store x = a; } thread u { await x == 1; await y == 0; }",
		"mod 2; loc x = 0; loc y = 0; thread t { reg a; xchg a = y, 1; store y = 0; } thread u { while 1 { await x == 1; } }",
		"mod 2; loc x = 0; thread t { store x = 1; } thread u { await x == 1; } thread v { await x == 0; fence; }",
	} {
		u := made(t, text)
		for _, model := range models {
			t.Run(fmt.Sprint(text, model), func(t *testing.T) {
				t.Parallel()
				for room := 1; room <= 2; room++ {
					eachValid(u, model, room, func(c api.Conf) { check(t, u, c, model, room) })
				}
			})
		}
	}
}
