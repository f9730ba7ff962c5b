package scc_test

import (
	"fmt"
	"math/rand/v2"
	"slices"
	"testing"

	"spinnaker/api"
	"spinnaker/edges"
	"spinnaker/scc"
)

// P17.1 to P17.4: against components of another make, which are what is said of them: the nodes that
// can be reached from one another.

// plain is a graph as a list of pairs of nodes.
type plain struct {
	n     int
	pairs [][2]int
}

// csr is the graph with its edges in order; their agents, 0 and 1, are of no concern.
func (p plain) csr(t *testing.T) api.Csr {
	t.Helper()
	var flat []int
	for _, e := range p.pairs {
		flat = append(flat, e[0], e[1])
	}
	g := built(t, p.n, flat...)
	for i := range g.Agent {
		g.Agent[i] %= 2
	}
	return g
}

// reach says for each two nodes whether one of them can be reached from the other one.
func (p plain) reach() [][]bool {
	can := make([][]bool, p.n)
	for i := range can {
		can[i] = make([]bool, p.n)
		can[i][i] = true
	}
	for _, e := range p.pairs {
		can[e[0]][e[1]] = true
	}
	for by := range p.n {
		for i := range p.n {
			for k := range p.n {
				can[i][k] = can[i][k] || can[i][by] && can[by][k]
			}
		}
	}
	return can
}

// keep is only the pairs of nodes that are both in.
func (p plain) keep(in func(i int) bool) plain {
	k := plain{n: p.n}
	for _, e := range p.pairs {
		if in(e[0]) && in(e[1]) {
			k.pairs = append(k.pairs, e)
		}
	}
	return k
}

// groups are the components of those nodes that are in.
func (p plain) groups(in func(i int) bool) [][]int {
	can := p.keep(in).reach()
	var l [][]int
	for i := range p.n {
		if !in(i) {
			continue
		}
		k := slices.IndexFunc(l, func(group []int) bool { return can[i][group[0]] && can[group[0]][i] })
		if k < 0 {
			l, k = append(l, nil), len(l)
		}
		l[k] = append(l[k], i)
	}
	return l
}

// cyclic tells whether an edge leads from a node of a list to a node of it.
func (p plain) cyclic(part []int) bool {
	return slices.ContainsFunc(p.pairs, func(e [2]int) bool {
		return slices.Contains(part, e[0]) && slices.Contains(part, e[1])
	})
}

func all(int) bool { return true }

// isComponents compares Parts and Groups with the components of the other make.
func isComponents(t *testing.T, p plain, g api.Csr) {
	t.Helper()
	groups := p.groups(all)
	if l := scc.Groups(g); !same(l, groups) {
		t.Fatalf("%v: the groups are %v, not %v", p, l, groups)
	}
	want := make([]int, p.n)
	for k, group := range groups {
		for _, i := range group {
			want[i] = k
		}
	}
	if l := scc.Parts(g); !slices.Equal(l, want) {
		t.Fatalf("%v: the parts are %v, not %v", p, l, want)
	}
}

// compares compares all functions, with these sets of nodes, a bit for each node.
func compares(t *testing.T, p plain, sets []uint) {
	t.Helper()
	g := p.csr(t)
	isComponents(t, p, g)
	properties(t, g)
	for _, set := range sets {
		in := make([]bool, p.n)
		var part []int
		for i := range in {
			if set>>i&1 == 1 {
				in[i], part = true, append(part, i)
			}
		}
		has := func(i int) bool { return i < len(in) && in[i] }
		for range 2 {
			if l, want := scc.Within(g, in), p.groups(has); !same(l, want) {
				t.Fatalf("%v: within %v the groups are %v, not %v", p, in, l, want)
			}
			in = in[:p.n/2]
		}
		if is, want := scc.Cyclic(g, part), p.cyclic(part); is != want {
			t.Fatalf("%v: Cyclic of %v is %t", p, part, is)
		}
		slices.Reverse(part)
		part = append(append([]int{p.n, -1}, part...), far...)
		if is, want := scc.Cyclic(g, append(part, part...)), p.cyclic(part); is != want {
			t.Fatalf("%v: Cyclic of %v twice is %t", p, part, is)
		}
	}
}

// properties are those of P17.4.
func properties(t *testing.T, g api.Csr) {
	t.Helper()
	parts := scc.Parts(g)
	met := make([]int, edges.Nodes(g))
	for k, group := range scc.Groups(g) {
		for _, i := range group {
			met[i]++
			if parts[i] != k {
				t.Fatalf("%v: node %d is in group %d, and in part %d", g, i, k, parts[i])
			}
		}
	}
	for i, times := range met {
		if times != 1 {
			t.Fatalf("%v: node %d is in %d groups", g, i, times)
		}
	}
	between := plain{n: len(parts)}
	for _, e := range edges.All(g) {
		if parts[e.From] != parts[e.To] {
			between.pairs = append(between.pairs, [2]int{parts[e.From], parts[e.To]})
		}
	}
	can := between.reach()
	for _, e := range between.pairs {
		if can[e[1]][e[0]] {
			t.Fatalf("%v: a cycle leads from component %d to component %d and back", g, e[0], e[1])
		}
	}
}

func allSets(n int) []uint {
	var sets []uint
	for set := range uint(1) << n {
		sets = append(sets, set)
	}
	return sets
}

// pairsOf are all pairs of nodes.
func pairsOf(n int) [][2]int {
	var l [][2]int
	for from := range n {
		for to := range n {
			l = append(l, [2]int{from, to})
		}
	}
	return l
}

// listsOf calls a function with all lists of at most length of the pairs of n nodes.
func listsOf(length, n int, visit func(l [][2]int)) {
	of := pairsOf(n)
	var walk func(l [][2]int)
	walk = func(l [][2]int) {
		visit(l)
		if len(l) == length {
			return
		}
		for _, e := range of {
			walk(append(l[:len(l):len(l)], e))
		}
	}
	walk(nil)
}

// All graphs of few nodes and edges, in each order of the edges.
func TestShort(t *testing.T) {
	for _, c := range []struct{ n, length int }{{0, 0}, {1, 4}, {2, 4}, {3, 4}, {4, 3}} {
		t.Run(fmt.Sprint(c), func(t *testing.T) {
			t.Parallel()
			sets := allSets(c.n)
			listsOf(c.length, c.n, func(l [][2]int) { compares(t, plain{c.n, l}, sets) })
		})
	}
}

// subsets calls a function with each set of these pairs.
func subsets(of [][2]int, visit func(l [][2]int)) {
	for set := range uint(1) << len(of) {
		var l [][2]int
		for i, e := range of {
			if set>>i&1 == 1 {
				l = append(l, e)
			}
		}
		visit(l)
	}
}

// noLoops are all pairs of different nodes.
func noLoops(n int) [][2]int {
	return slices.DeleteFunc(pairsOf(n), func(e [2]int) bool { return e[0] == e[1] })
}

// All graphs of up to three nodes, and all of four whose edges are between different nodes, with the
// edges in ascending and in descending order.
func TestDense(t *testing.T) {
	for n, of := range [][][2]int{pairsOf(0), pairsOf(1), pairsOf(2), pairsOf(3), noLoops(4)} {
		t.Run(fmt.Sprint(n), func(t *testing.T) {
			t.Parallel()
			sets := []uint{0b1011, 0b1101, 0b0110}
			subsets(of, func(l [][2]int) {
				compares(t, plain{n, l}, sets)
				slices.Reverse(l)
				compares(t, plain{n, l}, sets)
			})
		})
	}
}

// The same for the components of graphs of five nodes.
func TestFive(t *testing.T) {
	t.Parallel()
	subsets(noLoops(5), func(l [][2]int) {
		p := plain{5, l}
		isComponents(t, p, p.csr(t))
	})
}

// Greater graphs, of few and of many edges.
func TestGreater(t *testing.T) {
	for seed := range uint64(200) {
		t.Run(fmt.Sprint(seed), func(t *testing.T) {
			t.Parallel()
			r := rand.New(rand.NewPCG(seed, 17))
			p := plain{n: 1 + r.IntN(40)}
			for range r.IntN(2*p.n + 1) {
				p.pairs = append(p.pairs, [2]int{r.IntN(p.n), r.IntN(p.n)})
			}
			var sets []uint
			for range 20 {
				sets = append(sets, uint(r.Uint64()), uint(r.Uint64()|r.Uint64()))
			}
			compares(t, p, sets)
		})
	}
}

// Rings of known nodes, joined by edges that lead from later rings to earlier ones only.
func TestRings(t *testing.T) {
	for seed := range uint64(200) {
		r := rand.New(rand.NewPCG(seed, 18))
		n := 2 + r.IntN(60)
		order := r.Perm(n)
		p := plain{n: n}
		first := 0 // of the current ring
		for i := range order {
			last := i+1 == n || r.IntN(4) == 0
			if !last {
				p.pairs = append(p.pairs, [2]int{order[i], order[i+1]})
			} else if first < i {
				p.pairs = append(p.pairs, [2]int{order[i], order[first]})
			}
			for range r.IntN(3) * min(first, 1) {
				p.pairs = append(p.pairs, [2]int{order[i], order[r.IntN(first)]})
			}
			if last {
				first = i + 1
			}
		}
		r.Shuffle(len(p.pairs), func(i, k int) { p.pairs[i], p.pairs[k] = p.pairs[k], p.pairs[i] })
		compares(t, p, []uint{uint(r.Uint64() | r.Uint64()), uint(r.Uint64() | r.Uint64() | r.Uint64())})
	}
}
