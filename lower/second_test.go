package lower_test

import (
	"slices"
	"testing"

	"spinnaker/api"
	"spinnaker/lower"
	"spinnaker/stmt"
)

// P7.2 and P7.4: against a lowering of another make, which counts for each place how many
// instructions stand before it.

// closer is the place before which the Jump that ends a block stands: that of an If with Else
// ends its Body. There is none of other statements.
func closer(l []api.Stmt, i int) int {
	s := l[i]
	if s.Kind == api.While || s.Kind == api.Loop || s.Kind == api.If && s.Else > 0 {
		return i + 1 + s.Body
	}
	return -1
}

// upTo is how many instructions stand before place i, without the Jumps there that end blocks
// that begin before statement k.
func upTo(l []api.Stmt, i, k int) int {
	n := 0
	for j := range i {
		switch l[j].Kind {
		case api.Skip, api.Loop:
		default:
			n++
		}
		if c := closer(l, j); c >= 0 && (c < i || c == i && j >= k) {
			n++
		}
	}
	return n
}

// innermost is the loop around statement i.
func innermost(l []api.Stmt, i int) int {
	for j := i - 1; ; j-- {
		if k := l[j].Kind; (k == api.While || k == api.Loop) && j+1+l[j].Body > i {
			return j
		}
	}
}

// counted is the sequence of statements, of which only blocks have an expression, which is a.
func counted(l []api.Stmt) []api.Instr {
	made := make([]api.Instr, upTo(l, len(l), 0)+1)
	put := func(i int, x api.Instr) {
		if made[i].Op != 0 {
			panic("two in one place")
		}
		made[i] = x
	}
	a := []api.Op{{Op: api.Reg}}
	for i, s := range l {
		begin, body := upTo(l, i, 0), i+1+s.Body
		next := upTo(l, body, i) // behind the Body, and its Jump if there is one
		switch s.Kind {
		case api.Fence:
			put(begin, api.Instr{Op: api.Fence})
		case api.Break:
			j := innermost(l, i)
			put(begin, api.Instr{Op: api.Jump, To: upTo(l, j+1+l[j].Body, j)})
		case api.If:
			put(begin, api.Instr{Op: api.Branch, E: a, To: next})
			if s.Else > 0 {
				put(next-1, api.Instr{Op: api.Jump, To: upTo(l, body+s.Else, i)})
			}
		case api.While:
			put(begin, api.Instr{Op: api.Branch, E: a, To: next})
			put(next-1, api.Instr{Op: api.Jump, To: begin})
		case api.Loop:
			put(next-1, api.Instr{Op: api.Jump, To: begin})
		}
	}
	put(len(made)-1, api.Instr{Op: api.Done})
	return made
}

// nests are all lists of n statements that are blocks, Skip, Fence, or, within a loop, Break.
func nests(n int, inLoop bool) [][]api.Stmt {
	if n == 0 {
		return [][]api.Stmt{nil}
	}
	var all [][]api.Stmt
	for within := range n {
		rest := nests(n-1-within, inLoop)
		for _, first := range firsts(within, inLoop) {
			for _, after := range rest {
				all = append(all, slices.Concat(first, after))
			}
		}
	}
	return all
}

// firsts are the statements with so many others in them.
func firsts(within int, inLoop bool) [][]api.Stmt {
	a := []api.Node{{Op: api.Reg, Name: "a"}}
	var all [][]api.Stmt
	add := func(s api.Stmt, l ...[]api.Stmt) {
		all = append(all, append([]api.Stmt{s}, slices.Concat(l...)...))
	}
	if within == 0 {
		add(api.Stmt{Kind: api.Skip})
		add(api.Stmt{Kind: api.Fence})
		if inLoop {
			add(api.Stmt{Kind: api.Break})
		}
	}
	for _, body := range nests(within, true) {
		add(api.Stmt{Kind: api.While, E: a, Body: within}, body)
		add(api.Stmt{Kind: api.Loop, Body: within}, body)
	}
	for k := range within + 1 {
		others := nests(within-k, inLoop)
		for _, body := range nests(k, inLoop) {
			for _, other := range others {
				add(api.Stmt{Kind: api.If, E: a, Body: k, Else: within - k}, body, other)
			}
		}
	}
	return all
}

func TestAgainstCounted(t *testing.T) {
	count := 0
	for n := range 6 {
		for _, l := range nests(n, false) {
			count++
			got := lower.Thread(l, []string{"a"}, nil)
			if want := written(counted(l)); written(got) != want {
				t.Fatalf("%s\n got %s\nwant %s", stmt.Show(l, 0), written(got), want)
			}
			if len(got) > 2*n+1 || !lower.Right(api.Unit{Mod: 2, Regs: []int{1}, Code: [][]api.Instr{got}}) {
				t.Fatalf("%s\n%s", stmt.Show(l, 0), written(got))
			}
		}
	}
	if count < 10000 {
		t.Error(count)
	}
}

// What is lowered as one list is what its parts are, one after the other, but for where they begin.
func TestChains(t *testing.T) {
	var lists [][]api.Stmt
	for n := range 4 {
		lists = append(lists, nests(n, false)...)
	}
	for i, first := range lists {
		second := lists[(i*7919+13)%len(lists)]
		one, two := lower.Thread(first, []string{"a"}, nil), lower.Thread(second, []string{"a"}, nil)
		begin := len(one) - 1
		for k := range two {
			if op := two[k].Op; op == api.Jump || op == api.Branch {
				two[k].To += begin
			}
		}
		want := written(append(one[:begin], two...))
		if got := written(lower.Thread(slices.Concat(first, second), []string{"a"}, nil)); got != want {
			t.Fatalf("%s and %s\n got %s\nwant %s", stmt.Show(first, 0), stmt.Show(second, 0), got, want)
		}
	}
}
