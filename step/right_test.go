package step_test

import (
	"fmt"
	"slices"
	"testing"

	"spinnaker/api"
	"spinnaker/code"
	"spinnaker/conf"
	"spinnaker/step"
)

// P10.5: in all configurations that programs reach.

func programs() []string {
	return []string{
		"mod 2; thread t { }",
		"mod 2; loc x = 0; thread t { loop { } }",
		"mod 2; loc x = 0; loc y = 0; thread t { reg a; store x = 1; load a = y; } thread u { reg a; store y = 1; load a = x; }",
		"mod 3; loc x = 0; loc y = 0; thread t { store x = 1; store y = 1; store x = 2; } thread u { reg a, b; load a = y; load b = x; }",
		"mod 4; loc x = 0; thread t { reg a; fadd a = x, 3; store x = a + 1; fence; } thread u { reg a; cas a = x, 3, 0; if a { xchg a = x, 2; } }",
		"mod 5; loc x = 4; loc y = 1; thread t { reg a; loop { store x = a; set a = a + 2; } } thread u { reg a; await x == 2; while a != 3 { load a = x; store y = a; } }",
		"mod 2; loc x = 0; loc y = 0; loc z = 0; thread s { store x = 1; store y = 1; store z = 1; } thread t { reg a; load a = z; await y != 0; fence; } thread u { reg a; xchg a = x, 1; store y = a; }",
		"mod 3; loc l = 0; thread t { reg a; loop { set a = 1; while a { cas a = l, 0, 1; } store l = 0; } } thread u { reg a; loop { set a = 1; while a { xchg a = l, 1; } store l = 0; } }",
		"mod 16; loc x = 0; thread a { reg r; load r = x; store x = r + 5; } thread b { reg r; load r = x; store x = r + 7; } thread c { reg r; fadd r = x, 11; } thread d { await x == 12; }",
	}
}

// move is a step of a thread, or, with a location, a flush, by which a configuration becomes
// another one.
type move struct {
	thread, loc int
	from, to    api.Conf
}

const itself = -2 // in place of a location: the thread goes on itself

// moves are all moves from a configuration.
func moves(u api.Unit, c api.Conf, model, room int) []move {
	var l []move
	for t := range u.Code {
		if d, ok := step.Act(u, c, model, room, t); ok {
			l = append(l, move{t, itself, c, d})
		}
		for loc := range u.Init {
			if d, ok := step.Flush(c, model, t, loc); ok {
				l = append(l, move{t, loc, c, d})
			}
		}
	}
	return l
}

// each calls a function with all moves between configurations that can be reached.
func each(t *testing.T, visit func(u api.Unit, model, room int, m move)) {
	t.Helper()
	for _, text := range programs() {
		u := made(t, text)
		for _, model := range models {
			for _, room := range []int{1, 2, 4} {
				start, _ := conf.Start(u)
				known := map[string]bool{written(start): true}
				for work := []api.Conf{start}; len(work) > 0 && len(known) < 3000; work = work[1:] {
					for _, m := range moves(u, work[0], model, room) {
						visit(u, model, room, m)
						if !known[written(m.to)] {
							known[written(m.to)] = true
							work = append(work, m.to)
						}
					}
				}
			}
		}
	}
}

func TestValidStaysValid(t *testing.T) {
	each(t, func(u api.Unit, model, room int, m move) {
		if !conf.Right(u, m.to, model, room) {
			t.Fatalf("model %d, room %d: thread %d, location %d leads from %v to %v", model, room, m.thread, m.loc, m.from, m.to)
		}
	})
}

// own is what of a configuration a thread alone can change.
func own(c api.Conf, thread int) string {
	return fmt.Sprint(c.Pc[thread], c.Regs[thread], c.Buf[thread])
}

func TestOthersStay(t *testing.T) {
	each(t, func(u api.Unit, model, room int, m move) {
		for other := range u.Code {
			if other != m.thread && own(m.from, other) != own(m.to, other) {
				t.Fatalf("model %d, room %d: thread %d, location %d leads from %v to %v", model, room, m.thread, m.loc, m.from, m.to)
			}
		}
		// A flush changes nothing of the thread but the buffer.
		if m.loc != itself && (!slices.Equal(m.from.Pc, m.to.Pc) || fmt.Sprint(m.from.Regs) != fmt.Sprint(m.to.Regs)) {
			t.Fatalf("model %d, room %d: flushing %d of thread %d leads from %v to %v", model, room, m.loc, m.thread, m.from, m.to)
		}
	})
}

// Mem changes only where a store arrives: one that need not wait, or one that is flushed.
func TestMemStays(t *testing.T) {
	each(t, func(u api.Unit, model, room int, m move) {
		at := m.loc
		if at == itself {
			i := u.Code[m.thread][m.from.Pc[m.thread]]
			switch {
			case i.Op == api.Cas, i.Op == api.Fadd, i.Op == api.Xchg, i.Op == api.Store && model == api.SC:
				at = i.Loc
			}
		}
		for loc := range m.from.Mem {
			if loc != at && m.from.Mem[loc] != m.to.Mem[loc] {
				t.Fatalf("model %d, room %d: thread %d, location %d leads from %v to %v", model, room, m.thread, m.loc, m.from, m.to)
			}
		}
	})
}

func TestThreadReadsWhatItStored(t *testing.T) {
	seen := 0
	each(t, func(u api.Unit, model, room int, m move) {
		if m.loc != itself {
			// What the thread reads is no other for what of its own is flushed.
			for loc := range u.Init {
				if step.Reads(m.from, m.thread, loc) != step.Reads(m.to, m.thread, loc) {
					t.Fatalf("model %d, room %d: thread %d flushes %d, from %v to %v", model, room, m.thread, m.loc, m.from, m.to)
				}
			}
			return
		}
		i := u.Code[m.thread][m.from.Pc[m.thread]]
		if i.Op != api.Store {
			return
		}
		seen++
		want, _ := code.Value(i.E, u.Mod, m.from.Regs[m.thread], nil, nil)
		for loc := range u.Init {
			if loc != i.Loc {
				want := step.Reads(m.from, m.thread, loc)
				if got := step.Reads(m.to, m.thread, loc); got != want {
					t.Fatalf("model %d, room %d: thread %d reads %d from %d in %v", model, room, m.thread, got, loc, m.to)
				}
			}
		}
		if got := step.Reads(m.to, m.thread, i.Loc); got != want {
			t.Fatalf("model %d, room %d: thread %d reads %d from %d in %v", model, room, m.thread, got, i.Loc, m.to)
		}
	})
	if seen == 0 {
		t.Error("no thread stored")
	}
}

// The chapter's example 1, and the whole's examples 7 and 8.

func TestExample(t *testing.T) {
	u := made(t, "mod 2; loc x = 0; thread t { store x = 1; } thread u { } thread v { }")
	c, _ := conf.Start(u)
	all := func(c api.Conf) []int { return []int{step.Reads(c, 0, 0), step.Reads(c, 1, 0), step.Reads(c, 2, 0)} }
	c, ok := step.Act(u, c, api.TSO, 1, 0)
	if got := all(c); !ok || !slices.Equal(got, []int{1, 0, 0}) {
		t.Errorf("after the store: %v, %v", got, ok)
	}
	c, ok = step.Flush(c, api.TSO, 0, 0)
	if got := all(c); !ok || !slices.Equal(got, []int{1, 1, 1}) {
		t.Errorf("after the flush: %v, %v", got, ok)
	}
}

func TestSecondStoreAndFenceWait(t *testing.T) {
	for _, last := range []string{"store x = 0;", "fence;"} {
		u := made(t, "mod 2; loc x = 0; thread t { store x = 1; "+last+" }")
		for _, model := range buffered {
			c, _ := conf.Start(u)
			c, _ = step.Act(u, c, model, 1, 0)
			waits(t, u, c, model, 1, 0)
			c, _ = step.Flush(c, model, 0, 0)
			if !step.Enabled(u, c, model, 1, 0) {
				t.Errorf("%s waits after the flush, too", last)
			}
		}
	}
}
