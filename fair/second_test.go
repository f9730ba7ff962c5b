package fair_test

import (
	"fmt"
	"math/bits"
	"math/rand/v2"
	"slices"
	"testing"

	"spinnaker/api"
	"spinnaker/fair"
)

// P18.1 to P18.5: against parts of another make, which go by the chapter's words one by one, and
// against all sets of edges that a run can take again and again.

// set is nodes, a bit for each of them.
type set uint

func (s set) has(i int) bool { return s>>i&1 == 1 }

func (s set) list() []int {
	var l []int
	for i := range bits.Len(uint(s)) {
		if s.has(i) {
			l = append(l, i)
		}
	}
	return l
}

// plain is a graph as a list of edges, with a table.
type plain struct {
	n, agents int
	l         []api.Edge
	en        [][]bool
}

func (p plain) all() set { return 1<<p.n - 1 }

func (p plain) isRight() bool {
	return !slices.ContainsFunc(p.l, func(e api.Edge) bool { return e.Agent >= p.agents || !p.en[e.From][e.Agent] })
}

// reach is the nodes to which edges between nodes of a set lead from a node.
func (p plain) reach(in set, from int) set {
	r := set(1) << from
	for range p.n {
		for _, e := range p.l {
			if r.has(e.From) && in.has(e.From) && in.has(e.To) {
				r |= 1 << e.To
			}
		}
	}
	return r
}

// components are those of a set with only the edges between its nodes.
func (p plain) components(in set) []set {
	var l []set
	for i := range p.n {
		var c set
		for k := range p.n {
			if in.has(i) && in.has(k) && p.reach(in, i).has(k) && p.reach(in, k).has(i) {
				c |= 1 << k
			}
		}
		if c != 0 && !slices.Contains(l, c) {
			l = append(l, c)
		}
	}
	return l
}

func (p plain) acts(part set, a int) bool {
	return slices.ContainsFunc(p.l, func(e api.Edge) bool { return e.Agent == a && part.has(e.From) && part.has(e.To) })
}

func (p plain) moves(part set) bool {
	return slices.ContainsFunc(p.l, func(e api.Edge) bool { return part.has(e.From) && part.has(e.To) })
}

// enabled is at which nodes of a set an agent is enabled.
func (p plain) enabled(in set, a int) set {
	var at set
	for _, i := range in.list() {
		if p.en[i][a] {
			at |= 1 << i
		}
	}
	return at
}

// allows tells whether a run that visits these nodes again and again is fair in a mode to an agent that
// does not act.
func (p plain) allows(mode int, part set, a int) bool {
	at := p.enabled(part, a)
	return mode == api.Weak && at != part || mode == api.Strong && at == 0
}

func (p plain) isFair(mode int, part set) bool {
	for a := range p.agents {
		if !p.acts(part, a) && !p.allows(mode, part, a) {
			return false
		}
	}
	return (mode == api.Weak || mode == api.Strong) && p.moves(part)
}

func (p plain) isGood(mode int, part set) bool {
	return part != 0 && slices.Equal(p.components(part), []set{part}) && p.isFair(mode, part)
}

func (p plain) weak() set {
	for _, c := range p.components(p.all()) {
		if p.isFair(api.Weak, c) {
			return c
		}
	}
	return 0
}

// strong is what Strong finds in a set, and at which depth, from 1 on.
func (p plain) strong(in set) (set, int) {
	for _, c := range p.components(in) {
		if p.isFair(api.Strong, c) {
			return c, 1
		}
		if !p.moves(c) {
			continue
		}
		rest := c
		for a := range p.agents {
			if !p.acts(c, a) {
				rest &^= p.enabled(c, a)
			}
		}
		if found, depth := p.strong(rest); found != 0 {
			return found, depth + 1
		}
	}
	return 0, 0
}

// repeats tells whether a run can take these edges again and again, and no other ones, and be fair.
func (p plain) repeats(mode int, l []api.Edge) bool {
	only := plain{n: p.n, agents: p.agents, l: l, en: p.en}
	var part set
	for _, e := range l {
		part |= 1<<e.From | 1<<e.To
	}
	for _, i := range part.list() {
		if only.reach(part, i) != part {
			return false
		}
	}
	return only.isFair(mode, part)
}

// hasRun tells whether there is an infinite run that is fair.
func (p plain) hasRun(mode int) bool {
	for which := range uint(1) << len(p.l) {
		var l []api.Edge
		for i, e := range p.l {
			if which>>i&1 == 1 {
				l = append(l, e)
			}
		}
		if p.repeats(mode, l) {
			return true
		}
	}
	return false
}

// compares compares all functions, Good and Acts for these parts.
func compares(t *testing.T, p plain, parts []set) {
	t.Helper()
	g := built(t, p.n, p.l)
	for _, part := range parts {
		compareActs(t, p, g, part)
	}
	if !p.isRight() {
		nothing(t, g, p.en, p.agents)
		return
	}
	strong, _ := p.strong(p.all())
	finds(t, g, p.en, p.agents, p.weak().list(), strong.list())
	for _, part := range parts {
		compareGood(t, p, g, part)
	}
}

func compareActs(t *testing.T, p plain, g api.Csr, part set) {
	t.Helper()
	mixed := append([]int{p.n, -1}, part.list()...)
	slices.Reverse(mixed)
	for a := range p.agents + 1 {
		acts(t, g, a, p.acts(part, a), part.list()...)
		acts(t, g, a, p.acts(part, a), append(mixed, part.list()...)...)
	}
}

func compareGood(t *testing.T, p plain, g api.Csr, part set) {
	t.Helper()
	l := part.list()
	back := slices.Clone(l)
	slices.Reverse(back)
	for mode := range 4 {
		want := p.isGood(mode, part)
		if fair.Good(g, p.en, p.agents, mode, l) != want || fair.Good(g, p.en, p.agents, mode, back) != want {
			t.Fatalf("%v: Good of mode %d and %v is not %t", p, mode, l, want)
		}
		for _, i := range append([]int{p.n, -1}, l...) {
			if fair.Good(g, p.en, p.agents, mode, append(back[:len(l):len(l)], i)) {
				t.Fatalf("%v: Good of mode %d, %v and %d", p, mode, back, i)
			}
		}
	}
	if p.isGood(api.Strong, part) && !fair.Good(g, p.en, p.agents, api.Weak, l) {
		t.Fatalf("%v: %v is fair only strongly", p, l)
	}
}

// compareRuns is the second sentence of P18.5.
func compareRuns(t *testing.T, p plain) {
	t.Helper()
	if !p.isRight() {
		return
	}
	for _, mode := range []int{api.Weak, api.Strong} {
		l := fair.Find(built(t, p.n, p.l), p.en, p.agents, mode)
		if has := p.hasRun(mode); has != (len(l) > 0) {
			t.Fatalf("%v: Find of mode %d is %v, and there is a run: %t", p, mode, l, has)
		}
	}
}

func allSets(n int) []set {
	var l []set
	for s := range set(1) << n {
		l = append(l, s)
	}
	return l
}

// subsets calls a function with all sets of at most so many of these edges.
func subsets(most int, of []api.Edge, visit func(l []api.Edge)) {
	var walk func(l, of []api.Edge)
	walk = func(l, of []api.Edge) {
		visit(l)
		if len(l) == most {
			return
		}
		for i := range of {
			walk(append(l[:len(l):len(l)], of[i]), of[i+1:])
		}
	}
	walk(nil, of)
}

func edgesOf(n, agents int) []api.Edge {
	var l []api.Edge
	for from := range n {
		for a := range agents {
			for to := range n {
				l = append(l, api.Edge{From: from, Agent: a, To: to})
			}
		}
	}
	return l
}

// tables calls a function with all tables; with only those that are valid for these edges, if that is
// asked for.
func tables(p plain, onlyRight bool, visit func(p plain)) {
	for marks := range uint(1) << (p.n * p.agents) {
		p.en = make([][]bool, p.n)
		for i := range p.en {
			p.en[i] = make([]bool, p.agents)
			for a := range p.en[i] {
				p.en[i][a] = marks>>(i*p.agents+a)&1 == 1
			}
		}
		if !onlyRight || p.isRight() {
			visit(p)
		}
	}
}

// All graphs of few nodes and edges, with all tables, valid or not.
func TestSmall(t *testing.T) {
	for _, c := range []struct{ n, agents, most int }{{0, 0, 0}, {0, 2, 0}, {1, 0, 0}, {1, 1, 1}, {1, 3, 3}, {2, 0, 0}, {2, 1, 4}, {2, 2, 5}, {3, 1, 9}} {
		t.Run(fmt.Sprint(c), func(t *testing.T) {
			t.Parallel()
			sets := allSets(c.n)
			subsets(c.most, edgesOf(c.n, c.agents), func(l []api.Edge) {
				tables(plain{n: c.n, agents: c.agents, l: l}, false, func(p plain) {
					compares(t, p, sets)
					compareRuns(t, p)
				})
			})
		})
	}
}

// More graphs, with all tables that are valid.
func TestSmallRight(t *testing.T) {
	for _, c := range []struct{ n, agents, most int }{{2, 2, 8}, {2, 3, 4}, {3, 2, 3}} {
		t.Run(fmt.Sprint(c), func(t *testing.T) {
			t.Parallel()
			sets := allSets(c.n)
			subsets(c.most, edgesOf(c.n, c.agents), func(l []api.Edge) {
				tables(plain{n: c.n, agents: c.agents, l: l}, true, func(p plain) {
					compares(t, p, sets)
					compareRuns(t, p)
				})
			})
		})
	}
}

// made is a graph with agents that are enabled where they have edges and, one time of so many, elsewhere.
func made(r *rand.Rand, n, agents, count, rare int) plain {
	p := plain{n: n, agents: agents}
	for range n {
		row := make([]bool, agents)
		for a := range row {
			row[a] = r.IntN(rare) == 0
		}
		p.en = append(p.en, row)
	}
	for range count {
		e := api.Edge{From: r.IntN(n), Agent: r.IntN(agents), To: r.IntN(n)}
		p.l = append(p.l, e)
		p.en[e.From][e.Agent] = true
	}
	return p
}

// Greater graphs, of few and of many edges.
func TestGreater(t *testing.T) {
	for seed := range uint64(2000) {
		r := rand.New(rand.NewPCG(seed, 18))
		n := 2 + r.IntN(13)
		p := made(r, n, 1+r.IntN(12), r.IntN(3*n), 2+r.IntN(50))
		compares(t, p, append(p.components(p.all()), p.weak(), set(r.Uint64())&p.all()))
		if len(p.l) <= 8 {
			compareRuns(t, p)
		}
	}
}

// layers is a graph in which a node is added to the others again and again, so that all are in one
// component. The agent of each layer is enabled at its node, and acts only towards the next layer: it is
// treated fairly as long as that one is there, mostly.
func layers(r *rand.Rand, n int) plain {
	p := made(r, n, n, r.IntN(3), 100)
	order, agents := r.Perm(n), r.Perm(n)
	add := func(from, a, to int) {
		p.l = append(p.l, api.Edge{From: order[from], Agent: agents[a], To: order[to]})
		p.en[order[from]][agents[a]] = true
	}
	if r.IntN(4) > 0 {
		add(0, 0, 0)
	}
	for k := 1; k < n; k++ {
		add(k, 0, r.IntN(k))
		add(r.IntN(k), 0, k)
		p.en[order[k]][agents[k]] = r.IntN(8) > 0
		if k+1 < n && p.en[order[k]][agents[k]] {
			add(k, k, k+1)
		}
	}
	return p
}

// What is strongly fair has to be found at each depth.
func TestLayers(t *testing.T) {
	depths := map[int]int{}
	for seed := range uint64(1500) {
		r := rand.New(rand.NewPCG(seed, 20))
		p := layers(r, 2+r.IntN(8))
		strong, depth := p.strong(p.all())
		depths[depth]++
		compares(t, p, []set{p.all(), p.weak(), strong, set(r.Uint64()) & p.all()})
	}
	for depth := range 8 {
		if depths[depth] < 10 {
			t.Errorf("of what is found, so much is at depth %d: %d", depth, depths[depth])
		}
	}
}

// beside is several graphs beside one another, their nodes in any order.
func beside(r *rand.Rand, parts ...plain) plain {
	both := plain{agents: parts[0].agents}
	for _, p := range parts {
		both.n += p.n
	}
	order := r.Perm(both.n)
	both.en = make([][]bool, both.n)
	first := 0 // of the nodes of this one
	for _, p := range parts {
		for i, row := range p.en {
			both.en[order[first+i]] = row
		}
		for _, e := range p.l {
			both.l = append(both.l, api.Edge{From: order[first+e.From], Agent: e.Agent, To: order[first+e.To]})
		}
		first += p.n
	}
	return both
}

// What is found at some depth of an earlier component comes before what is found at any depth of a later
// one.
func TestBeside(t *testing.T) {
	several := map[int]int{}
	for seed := range uint64(1000) {
		r := rand.New(rand.NewPCG(seed, 19))
		n := 3 + r.IntN(3)
		p := beside(r, layers(r, n), layers(r, n))
		if r.IntN(2) == 0 {
			p = beside(r, layers(r, 4), layers(r, 4), layers(r, 4))
		}
		strong, _ := p.strong(p.all())
		found := map[int]int{}
		for _, c := range p.components(p.all()) {
			if part, depth := p.strong(c); part != 0 {
				found[depth]++
			}
		}
		for depth, count := range found {
			if count > 1 {
				several[depth]++
			}
		}
		compares(t, p, []set{p.all(), p.weak(), strong})
	}
	for depth := 1; depth < 5; depth++ {
		if several[depth] < 10 {
			t.Errorf("several are found at depth %d: %d times", depth, several[depth])
		}
	}
}
