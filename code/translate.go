package code

import (
	"spinnaker/api"
	"spinnaker/expr"
	"spinnaker/legal"
)

// resolver is the step of a name, and whether there is such a name.
type resolver func(api.Node) (api.Op, bool)

// Thread is the code of an expression of a thread.
func Thread(l []api.Node, regs []string) ([]api.Op, bool) {
	return translate(l, func(n api.Node) (api.Op, bool) {
		i := legal.Index(regs, n.Name)
		return api.Op{Op: api.Reg, N: i}, n.Op == api.Reg && i >= 0
	})
}

// Claim is the code of a claim's expression.
func Claim(l []api.Node, p api.Prog) ([]api.Op, bool) {
	locs, threads := legal.Locs(p), threadNames(p)
	return translate(l, func(n api.Node) (api.Op, bool) {
		if n.Op == api.Loc {
			i := legal.Index(locs, n.Name)
			return api.Op{Op: api.Loc, N: i}, i >= 0
		}
		t := legal.Index(threads, n.In)
		if n.Op != api.Of || t < 0 {
			return api.Op{}, false
		}
		i := legal.Index(p.Threads[t].Regs, n.Name)
		return api.Op{Op: api.Of, N: i, T: t}, i >= 0
	})
}

func threadNames(p api.Prog) []string {
	var l []string
	for _, t := range p.Threads {
		l = append(l, t.Name)
	}
	return l
}

// translator turns nodes into steps.
type translator struct {
	nodes   []api.Node // those that are still to be translated
	resolve resolver
	steps   []api.Op
}

// translate is the code of an expression in which names become steps as resolve says.
func translate(l []api.Node, resolve resolver) ([]api.Op, bool) {
	if !expr.Right(l) {
		return nil, false
	}
	t := translator{nodes: l, resolve: resolve}
	if !t.expression() {
		return nil, false
	}
	return t.steps, true
}

// expression translates the expression that the nodes begin with, and tells whether there are
// all of its names.
func (t *translator) expression() bool {
	n := t.nodes[0]
	t.nodes = t.nodes[1:]
	for range operatorOf(n.Op).operands {
		if !t.expression() {
			return false
		}
	}
	o, ok := t.step(n)
	t.steps = append(t.steps, o)
	return ok
}

func (t *translator) step(n api.Node) (api.Op, bool) {
	switch n.Op {
	case api.Reg, api.Loc, api.Of:
		return t.resolve(n)
	}
	return api.Op{Op: n.Op, N: n.N}, true
}
