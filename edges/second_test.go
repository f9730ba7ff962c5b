package edges_test

import (
	"fmt"
	"math"
	"math/rand/v2"
	"slices"
	"testing"

	"spinnaker/api"
	"spinnaker/edges"
)

// P14.1 to P14.4: against a graph of another make, which is a list of edges in any order.

type plain struct {
	n int
	l []api.Edge
}

func (p plain) out(i int) []api.Edge {
	var l []api.Edge
	for _, e := range p.l {
		if e.From == i {
			l = append(l, e)
		}
	}
	return l
}

func (p plain) all() []api.Edge {
	var l []api.Edge
	for i := range p.n {
		l = append(l, p.out(i)...)
	}
	return l
}

func (p plain) csr() api.Csr {
	g := api.Csr{Start: []int{0}}
	for i := range p.n {
		for _, e := range p.out(i) {
			g.Agent, g.To = append(g.Agent, e.Agent), append(g.To, e.To)
		}
		g.Start = append(g.Start, len(g.To))
	}
	return g
}

func (p plain) back() plain {
	b := plain{n: p.n}
	for _, e := range p.all() {
		b.l = append(b.l, api.Edge{From: e.To, Agent: e.Agent, To: e.From})
	}
	return b
}

func (p plain) keep(in []bool) plain {
	has := func(i int) bool { return i < len(in) && in[i] }
	out := func(e api.Edge) bool { return !has(e.From) || !has(e.To) }
	return plain{p.n, slices.DeleteFunc(slices.Clone(p.l), out)}
}

// reach lets the nodes that are reached grow as long as there is an edge out of them.
func (p plain) reach(from []int) []bool {
	reached := make([]bool, p.n)
	for i := range p.n {
		reached[i] = slices.Contains(from, i)
	}
	leaves := func(e api.Edge) bool { return reached[e.From] && !reached[e.To] }
	for i := slices.IndexFunc(p.l, leaves); i >= 0; i = slices.IndexFunc(p.l, leaves) {
		reached[p.l[i].To] = true
	}
	return reached
}

// sorted is edges in an order that depends only on which they are.
func sorted(l []api.Edge) []api.Edge {
	l = slices.Clone(l)
	slices.SortFunc(l, func(a, b api.Edge) int {
		return slices.Compare([]int{a.From, a.Agent, a.To}, []int{b.From, b.Agent, b.To})
	})
	return l
}

func same(a, b api.Csr) bool {
	return slices.Equal(a.Start, b.Start) && slices.Equal(a.Agent, b.Agent) && slices.Equal(a.To, b.To)
}

// isGraph compares a graph with one of the other make.
func isGraph(t *testing.T, g api.Csr, p plain) {
	t.Helper()
	if !edges.Right(g) || edges.Nodes(g) != p.n || !same(g, p.csr()) || !slices.Equal(edges.All(g), p.all()) {
		t.Fatalf("%v is not the graph with %d nodes and the edges %v", g, p.n, p.l)
	}
	for i := -1; i <= p.n+1; i++ {
		if l := edges.Out(g, i); !slices.Equal(l, p.out(i)) {
			t.Fatalf("%v: the edges of %d are %v", g, i, l)
		}
	}
}

// checks builds a graph and asks it for everything, with these sets of nodes, a bit for each node.
func checks(t *testing.T, p plain, sets []uint) {
	t.Helper()
	g := built(t, p.n, p.l)
	isGraph(t, g, p)
	isGraph(t, edges.Back(g), p.back())
	properties(t, g)
	for _, set := range sets {
		var from []int
		in := make([]bool, p.n)
		for i := range p.n {
			if set>>i&1 == 1 {
				from, in[i] = append(from, i), true
			}
		}
		isGraph(t, edges.Keep(g, in), p.keep(in))
		isGraph(t, edges.Keep(g, append(in, true, true)), p.keep(in))
		isGraph(t, edges.Keep(g, in[:p.n/2]), p.keep(in[:p.n/2]))
		want := p.reach(from)
		if got := edges.Reach(g, from); !slices.Equal(got, want) {
			t.Fatalf("%v: Reach from %v is %s, not %s", g, from, marks(got), marks(want))
		}
		slices.Reverse(from)
		from = append(append([]int{p.n, -1}, from...), math.MaxInt, math.MinInt)
		if got := edges.Reach(g, append(from, from...)); !slices.Equal(got, want) {
			t.Fatalf("%v: Reach from %v twice is %s, not %s", g, from, marks(got), marks(want))
		}
	}
}

// properties are those of P14.4.
func properties(t *testing.T, g api.Csr) {
	t.Helper()
	if again := built(t, edges.Nodes(g), edges.All(g)); !same(again, g) {
		t.Fatalf("built from its edges, %v is %v", g, again)
	}
	twice := edges.Back(edges.Back(g))
	if edges.Nodes(twice) != edges.Nodes(g) || !slices.Equal(sorted(edges.All(twice)), sorted(edges.All(g))) {
		t.Fatalf("twice the other way round, %v is %v", g, twice)
	}
}

// edgesOf are all edges from and to the numbers from low to high, with such agents.
func edgesOf(low, high, firstAgent, lastAgent int) []api.Edge {
	var l []api.Edge
	for from := low; from <= high; from++ {
		for agent := firstAgent; agent <= lastAgent; agent++ {
			for to := low; to <= high; to++ {
				l = append(l, api.Edge{From: from, Agent: agent, To: to})
			}
		}
	}
	return l
}

// listsOf calls a function with all lists of at most length of these edges.
func listsOf(length int, of []api.Edge, visit func(l []api.Edge)) {
	numbersOf(length, 0, len(of)-1, func(which []int) {
		var l []api.Edge
		for _, i := range which {
			l = append(l, of[i])
		}
		visit(l)
	})
}

func allSets(n int) []uint {
	var sets []uint
	for set := range uint(1) << n {
		sets = append(sets, set)
	}
	return sets
}

// All graphs of few nodes and edges, in each order of the edges.
func TestSmall(t *testing.T) {
	for _, c := range []struct{ n, length, agent int }{{0, 0, 0}, {1, 4, 1}, {2, 4, 1}, {3, 2, 1}, {3, 4, 0}, {4, 3, 0}} {
		t.Run(fmt.Sprint(c), func(t *testing.T) {
			t.Parallel()
			sets := allSets(c.n)
			listsOf(c.length, edgesOf(0, c.n-1, 0, c.agent), func(l []api.Edge) { checks(t, plain{c.n, l}, sets) })
		})
	}
}

// All short lists of edges, also of those that can't be.
func TestRefused(t *testing.T) {
	for _, c := range []struct{ n, length int }{{-1, 2}, {0, 2}, {1, 3}, {2, 2}, {3, 2}} {
		t.Run(fmt.Sprint(c), func(t *testing.T) {
			t.Parallel()
			good := edgesOf(0, c.n-1, 0, 1)
			listsOf(c.length, edgesOf(-1, max(c.n, 0), -1, 1), func(l []api.Edge) {
				bad := func(e api.Edge) bool { return !slices.Contains(good, e) }
				if c.n < 0 || slices.ContainsFunc(l, bad) {
					noBuild(t, c.n, l)
					return
				}
				isGraph(t, built(t, c.n, l), plain{c.n, l})
			})
		})
	}
}

// Greater graphs, of few and of many edges.
func TestGreater(t *testing.T) {
	for seed := range uint64(40) {
		t.Run(fmt.Sprint(seed), func(t *testing.T) {
			t.Parallel()
			r := rand.New(rand.NewPCG(seed, 14))
			n := 1 + r.IntN(40)
			p := plain{n: n}
			for range r.IntN(3 * n) {
				p.l = append(p.l, api.Edge{From: r.IntN(n), Agent: r.IntN(3), To: r.IntN(n)})
			}
			var sets []uint
			for range 20 {
				sets = append(sets, uint(r.Uint64()), 1<<r.IntN(n), uint(r.Uint64()|r.Uint64()))
			}
			checks(t, p, sets)
		})
	}
}
