package explore_test

import (
	"fmt"
	"math/rand/v2"
	"slices"
	"testing"

	"spinnaker/api"
	"spinnaker/conf"
	"spinnaker/edges"
	"spinnaker/explore"
	"spinnaker/machine"
)

// P15.1 to P15.4: against a search of another make, which asks each agent in turn, tells
// configurations apart by what is written of them, and takes the parents from the edges at its end.

type search struct {
	confs []api.Conf
	l     []api.Edge
}

// searched is what a unit reaches, or the first configurations of it if there are more than most.
func searched(t *testing.T, u api.Unit, model, room, most int) search {
	t.Helper()
	start, e := conf.Start(u)
	if e != api.OK {
		t.Fatalf("Start(%v): %d", u, e)
	}
	f := search{confs: []api.Conf{start}}
	known := map[string]int{fmt.Sprint(start): 0}
	for i := 0; i < len(f.confs) && len(f.confs) <= most; i++ {
		for a := range machine.Agents(u, model) {
			c, ok := machine.Act(u, f.confs[i], model, room, a)
			if !ok {
				continue
			}
			to, ok := known[fmt.Sprint(c)]
			if !ok {
				to = len(f.confs)
				known[fmt.Sprint(c)] = to
				f.confs = append(f.confs, c)
			}
			f.l = append(f.l, api.Edge{From: i, Agent: a, To: to})
		}
	}
	return f
}

// space is what was searched as All returns it.
func (f search) space() api.Space {
	s := api.Space{Confs: f.confs, G: api.Csr{Start: []int{0}}}
	for i := range f.confs {
		for _, e := range f.l {
			if e.From == i {
				s.G.Agent, s.G.To = append(s.G.Agent, e.Agent), append(s.G.To, e.To)
			}
		}
		s.G.Start = append(s.G.Start, len(s.G.To))
		first := slices.IndexFunc(f.l, func(e api.Edge) bool { return e.To == i })
		if i == 0 {
			s.Parent, s.By = append(s.Parent, -1), append(s.By, -1)
		} else {
			s.Parent, s.By = append(s.Parent, f.l[first].From), append(s.By, f.l[first].Agent)
		}
	}
	return s
}

// checks compares All with the other search, and asks for everything in the space, unless there are
// more than most configurations.
func checks(t *testing.T, u api.Unit, model, room, most int) {
	t.Helper()
	f := searched(t, u, model, room, most)
	n := len(f.confs)
	if n > most {
		noSpace(t, u, model, room, most, api.ErrBudget)
		noSpace(t, u, model, room, 1, api.ErrBudget)
		return
	}
	want := written(f.space())
	for _, budget := range []int{n, n + 1, 2 * n, api.MaxStates} {
		if got := written(spaceOf(t, u, model, room, budget)); got != want {
			t.Fatalf("model %d, room %d, budget %d:\n got %s\nwant %s", model, room, budget, got, want)
		}
	}
	for _, budget := range []int{1, n / 2, n - 2, n - 1} {
		if budget >= 1 && budget < n {
			noSpace(t, u, model, room, budget, api.ErrBudget)
		}
	}
	s := spaceOf(t, u, model, room, n)
	properties(t, u, s, model, room)
	questions(t, u, s, model, room)
}

// properties are those of P15.4, and that the graph, Parent and By are of these configurations.
func properties(t *testing.T, u api.Unit, s api.Space, model, room int) {
	t.Helper()
	if len(s.Parent) != len(s.Confs) || len(s.By) != len(s.Confs) || !edges.Right(s.G) || edges.Nodes(s.G) != len(s.Confs) {
		t.Fatalf("model %d, room %d: of other lengths: %s", model, room, written(s))
	}
	all := edges.All(s.G)
	for i, c := range s.Confs {
		if !conf.Right(u, c, model, room) {
			t.Fatalf("model %d, room %d: %v is not valid", model, room, c)
		}
		if explore.Find(s, c) != i || explore.Find(api.Space{Confs: s.Confs[i+1:]}, c) != -1 {
			t.Fatalf("model %d, room %d: %v is there twice", model, room, c)
		}
		if i > 0 && (s.Parent[i] >= i || !slices.Contains(all, api.Edge{From: s.Parent[i], Agent: s.By[i], To: i})) {
			t.Fatalf("model %d, room %d: %d is not found from %d by %d", model, room, i, s.Parent[i], s.By[i])
		}
		for _, a := range machine.Moves(u, c, model, room) {
			next, _ := machine.Act(u, c, model, room, a)
			to := explore.Find(s, next)
			if to < 0 || !slices.Contains(all, api.Edge{From: i, Agent: a, To: to}) {
				t.Fatalf("model %d, room %d: agent %d leads from %v to %v, which is %d", model, room, a, c, next, to)
			}
		}
	}
}

// questions compares what is asked of a space with what is asked of each configuration.
func questions(t *testing.T, u api.Unit, s api.Space, model, room int) {
	t.Helper()
	var finals, deads []int
	table := explore.Enabled(u, s, model, room)
	if len(table) != len(s.Confs) {
		t.Fatalf("model %d, room %d: %d rows for %d configurations", model, room, len(table), len(s.Confs))
	}
	for i, c := range s.Confs {
		if conf.Final(u, c) {
			finals = append(finals, i)
		}
		if machine.Dead(u, c, model, room) {
			deads = append(deads, i)
		}
		var moves []int
		for a, is := range table[i] {
			if is {
				moves = append(moves, a)
			}
		}
		if len(table[i]) != machine.Agents(u, model) || !slices.Equal(moves, machine.Moves(u, c, model, room)) {
			t.Fatalf("model %d, room %d: enabled at %v are %v of %d", model, room, c, moves, len(table[i]))
		}
	}
	if got := explore.Finals(u, s); !slices.Equal(got, finals) {
		t.Fatalf("model %d, room %d: final are %v, not %v", model, room, got, finals)
	}
	if got := explore.Deads(u, s, model, room); !slices.Equal(got, deads) {
		t.Fatalf("model %d, room %d: dead are %v, not %v", model, room, got, deads)
	}
}

func programs() []string {
	return []string{
		"mod 2; thread t { }",
		"mod 2; loc x = 0; thread t { loop { } } thread u { store x = 1; }",
		"mod 2; loc x = 0; thread t { await x == 1; } thread u { fence; }",
		"mod 3; loc x = 0; loc y = 0; loc z = 1; thread t { reg a; store x = 1; store y = 2; store x = 2; fence; load a = y; store z = a; }",
		"mod 2; loc x = 0; loc y = 0; thread t { await x == 1; store y = 1; } thread u { await y == 1; store x = 1; }",
		"mod 3; loc x = 0; loc y = 0; thread t { store x = 1; store y = 1; store x = 2; } thread u { reg a; load a = y; await x == a + 1; }",
		"mod 4; loc x = 0; thread t { reg a; fadd a = x, 3; store x = a + 1; fence; } thread u { reg a; cas a = x, 3, 0; if a { xchg a = x, 2; } }",
		"mod 2; loc x = 0; thread t { loop { store x = 1; store x = 0; } } thread u { await x == 1; }",
		"mod 2; loc x = 0; loc y = 0; loc z = 0; thread s { store x = 1; store y = 1; store z = 1; } thread t { reg a; load a = z; await y != 0; fence; }",
		"mod 3; loc x = 0; thread a { reg r; load r = x; store x = r + 1; } thread b { reg r; load r = x; store x = r + 1; } thread c { reg r; fadd r = x, 1; }",
		"mod 16; loc x = 0; thread t { reg a; loop { set a = a + 5; if a == 3 { break; } } store x = a; }",
		both,
	}
}

func TestSecond(t *testing.T) {
	for i, text := range programs() {
		u := made(t, text)
		for _, model := range models {
			t.Run(fmt.Sprint(i, model), func(t *testing.T) {
				t.Parallel()
				for room := 1; room <= api.MaxRoom; room++ {
					checks(t, u, model, room, 500)
				}
			})
		}
	}
}

// body is some statements of a thread with the register a, nested up to deep times, with numbers
// below mod.
func body(r *rand.Rand, mod, statements, deep int) string {
	s := ""
	for range statements {
		kinds := 12
		if deep == 0 {
			kinds = 9
		}
		loc := string(rune('x' + r.IntN(2)))
		n := r.IntN(mod)
		switch r.IntN(kinds) {
		case 0:
			s += fmt.Sprintf("set a = a + %d; ", n)
		case 1, 2:
			s += fmt.Sprintf("load a = %s; ", loc)
		case 3, 4:
			s += fmt.Sprintf("store %s = a + %d; ", loc, n)
		case 5:
			s += fmt.Sprintf("cas a = %s, %d, a + 1; ", loc, n)
		case 6:
			s += fmt.Sprintf("fadd a = %s, %d; ", loc, n)
		case 7:
			s += "fence; "
		case 8:
			s += fmt.Sprintf("await %s != %d; ", loc, n)
		case 9:
			s += fmt.Sprintf("if a == %d { %s} else { %s} ", n, body(r, mod, 1, deep-1), body(r, mod, 1, deep-1))
		case 10:
			s += fmt.Sprintf("while a != %d { %s} ", n, body(r, mod, 1, deep-1))
		case 11:
			s += fmt.Sprintf("loop { %sif a == %d { break; } } ", body(r, mod, 1, deep-1), n)
		}
	}
	return s
}

// Programs of all kinds of statements, made by a source that gives the same ones each time.
func TestMany(t *testing.T) {
	for seed := range uint64(60) {
		t.Run(fmt.Sprint(seed), func(t *testing.T) {
			t.Parallel()
			r := rand.New(rand.NewPCG(seed, 15))
			mod := 2 + r.IntN(2)
			text := fmt.Sprintf("mod %d; loc x = 0; loc y = 1; ", mod)
			for _, name := range []string{"t", "u", "v"}[:2+r.IntN(2)] {
				text += "thread " + name + " { reg a; " + body(r, mod, 2+r.IntN(3), 2) + "} "
			}
			u := made(t, text)
			for _, model := range models {
				checks(t, u, model, 1+r.IntN(api.MaxRoom), 400)
			}
		})
	}
}

// That the others of this file reach what they are for.
func TestReached(t *testing.T) {
	counts := map[string]int{}
	for _, text := range programs() {
		u := made(t, text)
		for _, model := range models {
			s, e := explore.All(u, model, 1, 500)
			if e != api.OK {
				counts["beyond"]++
				continue
			}
			counts["finals"] += len(explore.Finals(u, s))
			counts["deads"] += len(explore.Deads(u, s, model, 1))
			for _, x := range edges.All(s.G) {
				switch {
				case x.From == x.To:
					counts["loops"]++
				case x.To < x.From:
					counts["back"]++
				case s.Parent[x.To] != x.From:
					counts["again"]++
				}
			}
		}
	}
	for _, what := range []string{"finals", "deads", "loops", "back", "again"} {
		if counts[what] == 0 {
			t.Errorf("no %s: %v", what, counts)
		}
	}
}
