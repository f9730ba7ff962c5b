package explore_test

import (
	"fmt"
	"math"
	"slices"
	"strings"
	"testing"

	"spinnaker/api"
	"spinnaker/conf"
	"spinnaker/edges"
	"spinnaker/explore"
	"spinnaker/lower"
	"spinnaker/prog"
)

var models = []int{api.SC, api.TSO, api.PSO}

// made is the unit of a program.
func made(t *testing.T, text string) api.Unit {
	t.Helper()
	p, e, at := prog.Parse(text)
	if e != api.OK {
		t.Fatalf("Parse(%q): %d, %d", text, e, at)
	}
	u, e, at := lower.Make(p)
	if e != api.OK {
		t.Fatalf("Make(%q): %d, %d", text, e, at)
	}
	return u
}

// spaceOf is the space of a unit for which the budget has to suffice.
func spaceOf(t *testing.T, u api.Unit, model, room, budget int) api.Space {
	t.Helper()
	s, e := explore.All(u, model, room, budget)
	if e != api.OK {
		t.Fatalf("model %d, room %d, budget %d: error %d", model, room, budget, e)
	}
	return s
}

// noSpace fails the test unless there is this error, and nothing else.
func noSpace(t *testing.T, u api.Unit, model, room, budget int, want api.Errno) {
	t.Helper()
	s, e := explore.All(u, model, room, budget)
	if e != want {
		t.Errorf("model %d, room %d, budget %d: error %d, not %d", model, room, budget, e, want)
	}
	if len(s.Confs)+len(s.G.Start)+len(s.G.Agent)+len(s.G.To)+len(s.Parent)+len(s.By) > 0 {
		t.Errorf("model %d, room %d, budget %d: with error %d, there is %s", model, room, budget, e, written(s))
	}
}

// list is edges in the form 0-1>2: from 0 by agent 1 to 2.
func list(l []api.Edge) string {
	var words []string
	for _, e := range l {
		words = append(words, fmt.Sprintf("%d-%d>%d", e.From, e.Agent, e.To))
	}
	return strings.Join(words, " ")
}

// written is all that a space is, where a nil slice is written as an empty one is.
func written(s api.Space) string {
	return fmt.Sprint(s)
}

// example is a program with its space.
type example struct {
	text          string
	model, room   int
	confs         []string
	edges         string
	parent, by    []int
	finals, deads []int
}

// handing is a program in which a thread overtakes the store of another one.
const handing = "mod 2; loc x = 0; thread t { reg a; load a = x; } thread u { store x = 1; }"

// both is the program of the whole's example 4.
const both = "mod 2; loc x = 0; loc y = 0; thread t { reg a; store x = 1; load a = y; } thread u { reg a; store y = 1; load a = x; }"

func examples() []example {
	return []example{
		{"mod 2; thread t { }", api.SC, 1, []string{"{[0] [[]] [] [[]]}"}, "", []int{-1}, []int{-1}, []int{0}, nil},
		{"mod 2; thread t { loop { } }", api.TSO, 1, []string{"{[0] [[]] [] [[]]}"}, "0-0>0", []int{-1}, []int{-1}, nil, nil},
		{"mod 2; loc x = 0; thread t { await x == 1; }", api.PSO, 3, []string{"{[0] [[]] [0] [[]]}"}, "", []int{-1}, []int{-1}, nil, []int{0}},
		{"mod 2; loc x = 0; thread t { store x = 1; }", api.SC, 1,
			[]string{"{[0] [[]] [0] [[]]}", "{[1] [[]] [1] [[]]}"},
			"0-0>1", []int{-1, 0}, []int{-1, 0}, []int{1}, nil},
		{"mod 2; loc x = 0; thread t { store x = 1; }", api.TSO, 1,
			[]string{"{[0] [[]] [0] [[]]}", "{[1] [[]] [0] [[{0 1}]]}", "{[1] [[]] [1] [[]]}"},
			"0-0>1 1-1>2", []int{-1, 0, 1}, []int{-1, 0, 1}, []int{2}, nil},
		{"mod 2; loc x = 0; thread t { store x = 1; store x = 0; }", api.TSO, 1,
			[]string{"{[0] [[]] [0] [[]]}", "{[1] [[]] [0] [[{0 1}]]}", "{[1] [[]] [1] [[]]}", "{[2] [[]] [1] [[{0 0}]]}", "{[2] [[]] [0] [[]]}"},
			"0-0>1 1-1>2 2-0>3 3-1>4", []int{-1, 0, 1, 2, 3}, []int{-1, 0, 1, 0, 1}, []int{4}, nil},
		{"mod 2; loc x = 0; thread t { store x = 1; store x = 0; }", api.TSO, 2,
			[]string{"{[0] [[]] [0] [[]]}", "{[1] [[]] [0] [[{0 1}]]}", "{[2] [[]] [0] [[{0 1} {0 0}]]}", "{[1] [[]] [1] [[]]}", "{[2] [[]] [1] [[{0 0}]]}", "{[2] [[]] [0] [[]]}"},
			"0-0>1 1-0>2 1-1>3 2-1>4 3-0>4 4-1>5", []int{-1, 0, 1, 1, 2, 4}, []int{-1, 0, 0, 1, 1, 1}, []int{5}, nil},
		{"mod 2; loc x = 0; loc y = 0; thread t { store x = 1; store y = 1; }", api.PSO, 1,
			[]string{
				"{[0] [[]] [0 0] [[]]}", "{[1] [[]] [0 0] [[{0 1}]]}", "{[2] [[]] [0 0] [[{0 1} {1 1}]]}", "{[1] [[]] [1 0] [[]]}",
				"{[2] [[]] [1 0] [[{1 1}]]}", "{[2] [[]] [0 1] [[{0 1}]]}", "{[2] [[]] [1 1] [[]]}",
			},
			"0-0>1 1-0>2 1-1>3 2-1>4 2-2>5 3-0>4 4-2>6 5-1>6", []int{-1, 0, 1, 1, 2, 2, 4}, []int{-1, 0, 0, 1, 1, 2, 2}, []int{6}, nil},
		{handing, api.SC, 1,
			[]string{"{[0 0] [[0] []] [0] [[] []]}", "{[1 0] [[0] []] [0] [[] []]}", "{[0 1] [[0] []] [1] [[] []]}", "{[1 1] [[0] []] [1] [[] []]}", "{[1 1] [[1] []] [1] [[] []]}"},
			"0-0>1 0-1>2 1-1>3 2-0>4", []int{-1, 0, 0, 1, 2}, []int{-1, 0, 1, 1, 0}, []int{3, 4}, nil},
		{"mod 2; loc x = 0; thread t { fence; } thread u { await x == 1; }", api.SC, 1,
			[]string{"{[0 0] [[] []] [0] [[] []]}", "{[1 0] [[] []] [0] [[] []]}"},
			"0-0>1", []int{-1, 0}, []int{-1, 0}, nil, []int{1}},
		{"mod 2; loc x = 1; thread t { loop { store x = 0; store x = 1; } }", api.TSO, 1, // back to its start in two ways
			[]string{"{[0] [[]] [1] [[]]}", "{[1] [[]] [1] [[{0 0}]]}", "{[1] [[]] [0] [[]]}", "{[2] [[]] [0] [[{0 1}]]}", "{[0] [[]] [0] [[{0 1}]]}", "{[2] [[]] [1] [[]]}"},
			"0-0>1 1-1>2 2-0>3 3-0>4 3-1>5 4-1>0 5-0>0", []int{-1, 0, 1, 2, 3, 3}, []int{-1, 0, 1, 0, 0, 1}, nil, nil},
		{both, api.SC, 1,
			[]string{
				"{[0 0] [[0] [0]] [0 0] [[] []]}", "{[1 0] [[0] [0]] [1 0] [[] []]}", "{[0 1] [[0] [0]] [0 1] [[] []]}", "{[2 0] [[0] [0]] [1 0] [[] []]}",
				"{[1 1] [[0] [0]] [1 1] [[] []]}", "{[0 2] [[0] [0]] [0 1] [[] []]}", "{[2 1] [[0] [0]] [1 1] [[] []]}", "{[2 1] [[1] [0]] [1 1] [[] []]}",
				"{[1 2] [[0] [1]] [1 1] [[] []]}", "{[1 2] [[0] [0]] [1 1] [[] []]}", "{[2 2] [[0] [1]] [1 1] [[] []]}", "{[2 2] [[1] [1]] [1 1] [[] []]}",
				"{[2 2] [[1] [0]] [1 1] [[] []]}",
			},
			"0-0>1 0-1>2 1-0>3 1-1>4 2-0>4 2-1>5 3-1>6 4-0>7 4-1>8 5-0>9 6-1>10 7-1>11 8-0>11 9-0>12",
			[]int{-1, 0, 0, 1, 1, 2, 3, 4, 4, 5, 6, 7, 9}, []int{-1, 0, 1, 0, 1, 1, 1, 0, 1, 0, 1, 1, 0}, []int{10, 11, 12}, nil},
	}
}

// P15.1 and P15.3, in spaces of programs.

func TestExamples(t *testing.T) {
	for _, x := range examples() {
		u := made(t, x.text)
		s := spaceOf(t, u, x.model, x.room, 100)
		var confs []string
		for _, c := range s.Confs {
			confs = append(confs, fmt.Sprint(c))
		}
		if !slices.Equal(confs, x.confs) || !slices.Equal(s.Parent, x.parent) || !slices.Equal(s.By, x.by) {
			t.Errorf("%s, model %d, room %d:\n got %v, from %v by %v\nwant %v, from %v by %v", x.text, x.model, x.room, confs, s.Parent, s.By, x.confs, x.parent, x.by)
		}
		if got := list(edges.All(s.G)); got != x.edges || edges.Nodes(s.G) != len(x.confs) {
			t.Errorf("%s, model %d, room %d: %d nodes with the edges %s, not %s", x.text, x.model, x.room, edges.Nodes(s.G), got, x.edges)
		}
		if got := explore.Finals(u, s); !slices.Equal(got, x.finals) {
			t.Errorf("%s, model %d, room %d: final are %v, not %v", x.text, x.model, x.room, got, x.finals)
		}
		if got := explore.Deads(u, s, x.model, x.room); !slices.Equal(got, x.deads) {
			t.Errorf("%s, model %d, room %d: dead are %v, not %v", x.text, x.model, x.room, got, x.deads)
		}
		for i, c := range s.Confs {
			if got := explore.Find(s, c); got != i {
				t.Errorf("%s, model %d, room %d: %v is found at %d, not %d", x.text, x.model, x.room, c, got, i)
			}
		}
	}
}

// The whole's example 4: both loads are 0 at the end under TSO and PSO, but not under SC.
func TestBoth(t *testing.T) {
	u := made(t, both)
	for _, model := range models {
		for room := 1; room <= api.MaxRoom; room++ {
			s := spaceOf(t, u, model, room, 1000)
			zero := api.Conf{Pc: []int{2, 2}, Regs: [][]int{{0}, {0}}, Mem: []int{1, 1}, Buf: make([][]api.Entry, 2)}
			found := slices.Contains(explore.Finals(u, s), explore.Find(s, zero))
			if found != (model != api.SC) {
				t.Errorf("model %d, room %d: both are 0: %v", model, room, found)
			}
		}
	}
}

// P15.1: what is refused.

func TestRefused(t *testing.T) {
	u := made(t, "mod 2; loc x = 0; thread t { store x = 1; }")
	for _, bad := range []int{0, 4, -1, math.MinInt, math.MaxInt} {
		noSpace(t, u, bad, 1, 9, api.ErrArg)
	}
	for _, bad := range []int{0, 5, -1, math.MinInt, math.MaxInt} {
		for _, model := range models {
			noSpace(t, u, model, bad, 9, api.ErrArg)
		}
	}
	for _, bad := range []int{0, -1, api.MaxStates + 1, math.MinInt, math.MaxInt} {
		for _, model := range models {
			noSpace(t, u, model, 1, bad, api.ErrArg)
			noSpace(t, u, 0, 1, bad, api.ErrArg)
			noSpace(t, u, model, 5, bad, api.ErrArg)
		}
	}
	noSpace(t, u, 0, 0, 0, api.ErrArg)
	noSpace(t, u, api.SC, 0, 1, api.ErrArg) // for which the budget would not suffice
	for _, model := range models {
		for room := 1; room <= api.MaxRoom; room++ {
			spaceOf(t, u, model, room, 3)
			spaceOf(t, u, model, room, api.MaxStates)
			noSpace(t, u, model, room, 1, api.ErrBudget)
		}
	}
}

// wrongs are units that are not valid.
func wrongs() []api.Unit {
	done := []api.Instr{{Op: api.Done}}
	long := append(slices.Repeat([]api.Instr{{Op: api.Fence}}, 1000), done...)
	return []api.Unit{
		{},
		{Mod: 2},
		{Mod: 1, Regs: []int{0}, Code: [][]api.Instr{done}},
		{Mod: 17, Regs: []int{0}, Code: [][]api.Instr{done}},
		{Mod: 2, Init: []int{2}, Regs: []int{0}, Code: [][]api.Instr{done}},
		{Mod: 2, Init: make([]int, 7), Regs: []int{0}, Code: [][]api.Instr{done}},
		{Mod: 2, Regs: []int{7}, Code: [][]api.Instr{done}},
		{Mod: 2, Regs: []int{0, 0}, Code: [][]api.Instr{done}},
		{Mod: 2, Regs: []int{0}, Code: [][]api.Instr{done, done}},
		{Mod: 2, Regs: make([]int, 5), Code: [][]api.Instr{done, done, done, done, done}},
		{Mod: 2, Regs: []int{0}, Code: [][]api.Instr{nil}},
		{Mod: 2, Regs: []int{0}, Code: [][]api.Instr{long}},
		{Mod: 2, Regs: []int{0}, Code: [][]api.Instr{{{Op: api.Fence}}}},
		{Mod: 2, Regs: []int{0}, Code: [][]api.Instr{{{Op: api.Jump, To: 2}, {Op: api.Done}}}},
		{Mod: 2, Regs: []int{0}, Code: [][]api.Instr{{{Op: api.Load}, {Op: api.Done}}}},
		{Mod: 2, Regs: []int{1}, Code: [][]api.Instr{{{Op: api.Set}, {Op: api.Done}}}},
		{Mod: 2, Regs: []int{0}, Code: [][]api.Instr{{{Op: api.Fence, To: 1}, {Op: api.Done}}}},
		{Mod: 2, Regs: []int{0}, Code: [][]api.Instr{{{Op: 99}, {Op: api.Done}}}},
	}
}

// A unit that is not valid is refused ahead of all else.
func TestWrongUnits(t *testing.T) {
	for i, u := range wrongs() {
		if lower.Right(u) {
			t.Fatalf("unit %d is right", i)
		}
		for _, model := range append([]int{0, 4}, models...) {
			for _, room := range []int{0, 1, 4, 5} {
				for _, budget := range []int{0, 1, 9, api.MaxStates, api.MaxStates + 1} {
					noSpace(t, u, model, room, budget, api.ErrForm)
				}
			}
		}
	}
}

// P15.2: Enabled.

// marks is a table with y for what is enabled, row by row.
func marks(table [][]bool) string {
	var rows []string
	for _, row := range table {
		s := ""
		for _, is := range row {
			if is {
				s += "y"
			} else {
				s += "n"
			}
		}
		rows = append(rows, s)
	}
	return strings.Join(rows, " ")
}

func TestEnabled(t *testing.T) {
	u := made(t, "mod 2; loc x = 0; loc y = 0; thread t { store x = 1; store y = 1; } thread u { await y == 1; fence; }")
	confs := []api.Conf{
		{Pc: []int{2, 2}, Regs: make([][]int, 2), Mem: []int{0, 0}, Buf: make([][]api.Entry, 2)},
		{Pc: []int{0, 0}, Regs: make([][]int, 2), Mem: []int{0, 0}, Buf: make([][]api.Entry, 2)},
		{Pc: []int{0, 1}, Regs: make([][]int, 2), Mem: []int{0, 1}, Buf: [][]api.Entry{{{Loc: 0, N: 1}}, nil}},
		{Pc: []int{0, 1}, Regs: make([][]int, 2), Mem: []int{0, 1}, Buf: [][]api.Entry{{{Loc: 0, N: 1}}, nil}},
		{Pc: []int{1, 0}, Regs: make([][]int, 2), Mem: []int{0, 1}, Buf: [][]api.Entry{{{Loc: 0, N: 1}}, {{Loc: 1, N: 0}}}},
	}
	s := api.Space{Confs: confs}
	for _, c := range []struct {
		model, room int
		want        string
	}{
		{api.SC, 1, "nn yn yy yy yn"},
		{api.TSO, 1, "nnnn ynnn nyyn nyyn nnyy"},
		{api.TSO, 2, "nnnn ynnn yyyn yyyn ynyy"},
		{api.PSO, 1, "nnnnnn ynnnnn nyynnn nyynnn ynynny"},
		{api.PSO, 4, "nnnnnn ynnnnn yyynnn yyynnn ynynny"},
		{0, 1, "    "}, // no agents
		{4, 1, "    "},
	} {
		table := explore.Enabled(u, s, c.model, c.room)
		if got := marks(table); got != c.want || len(table) != len(confs) {
			t.Errorf("model %d, room %d: %s, not %s", c.model, c.room, got, c.want)
		}
	}
	for _, model := range models {
		if table := explore.Enabled(u, api.Space{}, model, 1); len(table) > 0 {
			t.Errorf("model %d: %v without configurations", model, table)
		}
	}
	for i, wrong := range wrongs() {
		if table := explore.Enabled(wrong, s, api.TSO, 1); len(table) != len(confs) || marks(table) != "    " {
			t.Errorf("unit %d is not right, but there is %s", i, marks(table))
		}
	}
}

// P15.3: Find, Finals and Deads, in lists of configurations that are no space.

// small are configurations of which some are the same.
func small() []api.Conf {
	entry := []api.Entry{{Loc: 0, N: 1}}
	return []api.Conf{
		{Pc: []int{1}, Regs: [][]int{{0}}, Mem: []int{1}, Buf: [][]api.Entry{nil}},
		{Pc: []int{0}, Regs: [][]int{{0}}, Mem: []int{1}, Buf: [][]api.Entry{nil}},
		{Pc: []int{1}, Regs: [][]int{{1}}, Mem: []int{1}, Buf: [][]api.Entry{{}}},
		{Pc: []int{1}, Regs: [][]int{{0}}, Mem: []int{0}, Buf: [][]api.Entry{nil}},
		{Pc: []int{1}, Regs: [][]int{{0}}, Mem: []int{1}, Buf: [][]api.Entry{entry}},
		{Pc: []int{1}, Regs: [][]int{{0}}, Mem: []int{1}, Buf: [][]api.Entry{{}}}, // the same as the first one
		{Pc: []int{1}, Regs: [][]int{{0}}, Mem: []int{1}, Buf: [][]api.Entry{entry, nil}},
		{Pc: []int{0}, Regs: [][]int{{0}}, Mem: []int{1}, Buf: [][]api.Entry{{}}},
		{Pc: []int{1}, Regs: [][]int{{0}}, Mem: []int{1}, Buf: [][]api.Entry{{{Loc: 1, N: 1}}}},
		{},
		{Pc: []int{}, Regs: [][]int{}, Mem: []int{}, Buf: [][]api.Entry{}},
	}
}

func TestFind(t *testing.T) {
	s := api.Space{Confs: small()}
	for i, want := range []int{0, 1, 2, 3, 4, 0, 6, 1, 8, 9, 9} {
		if got := explore.Find(s, s.Confs[i]); got != want {
			t.Errorf("%d is found at %d, not %d", i, got, want)
		}
		less := api.Space{Confs: s.Confs[:want]}
		if got := explore.Find(less, s.Confs[i]); got != -1 {
			t.Errorf("%d is found at %d of %d", i, got, want)
		}
	}
	for _, c := range []api.Conf{
		{Pc: []int{2}, Regs: [][]int{{0}}, Mem: []int{1}, Buf: [][]api.Entry{nil}},
		{Pc: []int{1, 1}, Regs: [][]int{{0}}, Mem: []int{1}, Buf: [][]api.Entry{nil}},
		{Pc: []int{1}, Regs: [][]int{{0, 0}}, Mem: []int{1}, Buf: [][]api.Entry{nil}},
		{Pc: []int{1}, Regs: [][]int{{0}}, Mem: []int{2}, Buf: [][]api.Entry{nil}},
		{Pc: []int{1}, Regs: [][]int{{0}}, Mem: []int{1, 0}, Buf: [][]api.Entry{nil}},
		{Pc: []int{1}, Regs: [][]int{{0}}, Mem: []int{1}},
		{Pc: []int{math.MinInt}, Regs: [][]int{{math.MaxInt}}},
		{Pc: []int{257}, Regs: [][]int{{256}}, Mem: []int{257}, Buf: [][]api.Entry{nil}}, // the same bytes as the first one
	} {
		if got := explore.Find(s, c); got != -1 {
			t.Errorf("%v is found at %d", c, got)
		}
	}
	if got := explore.Find(api.Space{}, api.Conf{}); got != -1 {
		t.Errorf("in nothing, nothing is found at %d", got)
	}
}

func TestFinalsAndDeads(t *testing.T) {
	u := made(t, "mod 2; loc x = 0; thread t { reg a; await x == a; }")
	entry := []api.Entry{{Loc: 0, N: 1}}
	at := func(pc, reg int, b []api.Entry) api.Conf {
		return api.Conf{Pc: []int{pc}, Regs: [][]int{{reg}}, Mem: []int{1}, Buf: [][]api.Entry{b}}
	}
	still := []api.Conf{at(0, 0, nil), at(1, 0, nil), at(0, 1, nil), at(1, 1, []api.Entry{}), at(0, 0, []api.Entry{}), at(1, 0, nil)}
	waiting := []api.Conf{at(0, 0, entry), at(1, 0, entry), at(0, 1, entry), at(1, 0, nil), at(0, 0, nil), at(1, 0, nil)}
	for _, model := range models {
		finalsAndDeads(t, u, still, model, []int{1, 3, 5}, []int{0, 4})
		finalsAndDeads(t, u, nil, model, nil, nil)
		if model != api.SC {
			finalsAndDeads(t, u, waiting, model, []int{3, 5}, []int{4})
		}
	}
}

// finalsAndDeads fails the test unless exactly these of some configurations are final, and dead.
func finalsAndDeads(t *testing.T, u api.Unit, confs []api.Conf, model int, finals, deads []int) {
	t.Helper()
	s := api.Space{Confs: confs}
	if got := explore.Finals(u, s); !slices.Equal(got, finals) {
		t.Errorf("model %d: of %v, final are %v, not %v", model, confs, got, finals)
	}
	for room := 1; room <= api.MaxRoom; room++ {
		if got := explore.Deads(u, s, model, room); !slices.Equal(got, deads) {
			t.Errorf("model %d, room %d: of %v, dead are %v, not %v", model, room, confs, got, deads)
		}
	}
}

// With each room, only what no store can change any more is dead.
func TestDeadsOfRooms(t *testing.T) {
	u := made(t, "mod 2; loc x = 0; thread t { await x == 0; store x = 1; store x = 0; } thread u { await x == 1; await x == 0; }")
	for _, model := range models {
		for room := 1; room <= api.MaxRoom; room++ {
			s := spaceOf(t, u, model, room, 1000)
			var want []int
			for i, c := range s.Confs {
				if conf.Quiet(c) && c.Pc[0] == 3 && c.Pc[1] == 0 {
					want = append(want, i) // thread u has missed the number
				}
			}
			if got := explore.Deads(u, s, model, room); len(want) != 1 || !slices.Equal(got, want) {
				t.Errorf("model %d, room %d: dead are %v, not %v", model, room, got, want)
			}
		}
	}
}

// How many configurations there are: a program is stopped at each smaller budget.
func TestCounts(t *testing.T) {
	for _, c := range []struct {
		text              string
		room              int
		states, edgeCount [3]int // under SC, TSO and PSO
	}{
		{"mod 2; thread t { }", 1, [3]int{1, 1, 1}, [3]int{0, 0, 0}},
		{"mod 2; thread t { fence; } thread u { fence; }", 1, [3]int{4, 4, 4}, [3]int{4, 4, 4}},
		{"mod 2; thread t { fence; fence; } thread u { fence; fence; fence; } thread v { fence; }", 1, [3]int{24, 24, 24}, [3]int{46, 46, 46}},
		{"mod 2; loc x = 0; loc y = 0; thread t { store x = 1; store y = 1; }", 1, [3]int{3, 5, 7}, [3]int{2, 4, 8}},
		{"mod 2; loc x = 0; loc y = 0; thread t { store x = 1; store y = 1; }", 2, [3]int{3, 6, 7}, [3]int{2, 6, 8}},
		{"mod 16; thread t { reg a; loop { set a = a + 1; } }", 1, [3]int{32, 32, 32}, [3]int{32, 32, 32}},
	} {
		u := made(t, c.text)
		for i, model := range models {
			s := spaceOf(t, u, model, c.room, c.states[i])
			if len(s.Confs) != c.states[i] || len(edges.All(s.G)) != c.edgeCount[i] {
				t.Errorf("%s, model %d: %d configurations and %d edges, not %d and %d", c.text, model, len(s.Confs), len(edges.All(s.G)), c.states[i], c.edgeCount[i])
			}
			for budget := 1; budget < c.states[i]; budget++ {
				noSpace(t, u, model, c.room, budget, api.ErrBudget)
			}
		}
	}
}

// Programs at the limits of the whole.
func TestLimits(t *testing.T) {
	for _, text := range []string{
		"mod 16; thread t { " + strings.Repeat("fence; ", api.MaxStmts) + "}",
		"mod 16; loc a = 15; loc b = 15; loc c = 15; loc d = 15; loc e = 15; loc f = 15; thread s { reg g, h, i, j, k, l; } thread t { reg g, h, i, j, k, l; } thread u { reg g, h, i, j, k, l; } thread v { reg g, h, i, j, k, l; load l = f; store a = l + 1; }",
	} {
		u := made(t, text)
		for _, model := range models {
			s := spaceOf(t, u, model, api.MaxRoom, api.MaxStates)
			last := len(s.Confs) - 1
			if got := explore.Finals(u, s); !slices.Equal(got, []int{last}) || s.Parent[last] != last-1 {
				t.Errorf("%s, model %d: final are %v of %d", text, model, got, last)
			}
		}
	}
}

// great is a program of 100000 configurations, or of one more: thread u waits for s, and t for both.
func great(more bool) string {
	fences := func(n int) string { return " { " + strings.Repeat("fence; ", n) }
	text := "mod 2; loc x = 0; loc y = 0; thread s" + fences(86) + "store x = 1; } thread t" + fences(70) + "await x == 1; store y = 1; } thread u" + fences(15)
	if more {
		text += "await y == 1; "
	}
	return text + "}"
}

func TestGreat(t *testing.T) {
	exact, more := made(t, great(false)), made(t, great(true))
	s := spaceOf(t, exact, api.SC, 1, api.MaxStates)
	if len(s.Confs) != api.MaxStates || edges.Nodes(s.G) != api.MaxStates {
		t.Fatalf("%d configurations, and %d nodes", len(s.Confs), edges.Nodes(s.G))
	}
	if f, d := explore.Finals(exact, s), explore.Deads(exact, s, api.SC, 1); !slices.Equal(f, []int{api.MaxStates - 1}) || len(d) > 0 {
		t.Errorf("final are %v, and dead %v", f, d)
	}
	if i := explore.Find(s, s.Confs[api.MaxStates-1]); i != api.MaxStates-1 {
		t.Errorf("the last one is found at %d", i)
	}
	noSpace(t, exact, api.SC, 1, api.MaxStates-1, api.ErrBudget)
	noSpace(t, more, api.SC, 1, api.MaxStates, api.ErrBudget)
}
