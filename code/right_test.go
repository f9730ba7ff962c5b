package code_test

import (
	"math"
	"strings"
	"testing"

	"spinnaker/api"
	"spinnaker/code"
)

func num(n int) api.Op   { return api.Op{Op: api.Num, N: n} }
func reg(n int) api.Op   { return api.Op{Op: api.Reg, N: n} }
func loc(n int) api.Op   { return api.Op{Op: api.Loc, N: n} }
func of(t, n int) api.Op { return api.Op{Op: api.Of, N: n, T: t} }
func op(kind int) api.Op { return api.Op{Op: kind} }

// registers, own and locs are what code is valid for in most tests.
var registers = []int{0, 3, 1, 0}

const own, locs = 2, 4

// far are numbers that are no index there, and none of a Num.
var far = []int{-1, -1000, math.MinInt, 10000, math.MaxInt}

// valid fails the test unless the code is valid, and has this depth.
func valid(t *testing.T, depth int, l ...api.Op) {
	t.Helper()
	if !code.Right(l, registers, own, locs) {
		t.Errorf("%s is valid", written(l))
	}
	if d := code.Depth(l); d != depth {
		t.Errorf("Depth of %s = %d, want %d", written(l), d, depth)
	}
}

// invalid fails the test if the code is valid, or has another depth.
func invalid(t *testing.T, depth int, l ...api.Op) {
	t.Helper()
	if code.Right(l, registers, own, locs) {
		t.Errorf("%s is not valid", written(l))
	}
	if d := code.Depth(l); d != depth {
		t.Errorf("Depth of %s = %d, want %d", written(l), d, depth)
	}
}

// P6.2: valid code.

func TestRight(t *testing.T) {
	for _, o := range []api.Op{num(0), num(1), num(9998), num(9999), reg(0), reg(1), loc(0), loc(3), of(1, 0), of(1, 2), of(2, 0)} {
		valid(t, 1, o)
		valid(t, 1, o, op(api.Not))
		valid(t, 1, o, op(api.Not), op(api.Not), op(api.Not))
		for _, kind := range binary {
			valid(t, 2, o, num(1), op(kind))
			valid(t, 2, num(1), o, op(kind))
			valid(t, 2, num(1), o, op(kind), op(api.Not))
			valid(t, 2, o, num(1), op(api.Not), op(kind))
		}
	}
	add, not := op(api.Add), op(api.Not)
	valid(t, 2, num(1), num(2), add, num(3), add, num(4), add)
	valid(t, 3, num(1), num(2), num(3), add, add, num(4), add)
	valid(t, 3, num(1), num(2), add, num(3), num(4), add, add)
	valid(t, 4, num(1), num(2), num(3), num(4), add, add, add)
	valid(t, 4, num(1), num(2), num(3), num(4), not, add, add, not, add)
}

// P6.2: the numbers of the steps.

func TestIndexes(t *testing.T) {
	out := []api.Op{
		num(10001),
		reg(2), reg(3),
		loc(4), loc(5),
		of(0, 0), of(1, 3), of(1, 4), of(2, 1), of(3, 0), of(4, 0), of(5, 0), of(0, 1),
	}
	for _, n := range far {
		out = append(out, num(n), reg(n), loc(n), of(n, 0), of(n, n))
		for i := range registers {
			out = append(out, of(i, n))
		}
	}
	for _, o := range out {
		invalid(t, 1, o)
		invalid(t, 1, o, op(api.Not))
		invalid(t, 2, num(1), o, op(api.Add))
		invalid(t, 2, o, num(1), op(api.Add))
	}
}

// Each index is bounded by what it belongs to, and by nothing else.
func TestBounds(t *testing.T) {
	for _, c := range []struct {
		o         api.Op
		regs      []int
		own, locs int
		want      bool
	}{
		{reg(6), nil, 7, 0, true},
		{reg(6), []int{9}, 6, 9, false},
		{reg(0), []int{9}, 0, 9, false},
		{reg(0), nil, 1, 0, true},
		{loc(6), nil, 0, 7, true},
		{loc(6), []int{9}, 9, 6, false},
		{loc(0), []int{9}, 9, 0, false},
		{loc(0), nil, 0, 1, true},
		{of(2, 6), []int{0, 0, 7}, 0, 0, true},
		{of(2, 6), []int{9, 9, 6}, 9, 9, false},
		{of(2, 6), []int{9, 9}, 9, 9, false},
		{of(0, 0), nil, 9, 9, false},
		{of(0, 0), []int{1}, 0, 0, true},
		{num(9999), nil, 0, 0, true},
		// What there are a negative number of is not there.
		{num(0), []int{-1, math.MinInt}, -1, math.MinInt, true},
		{reg(0), nil, -1, 9, false},
		{reg(-1), nil, -1, 9, false},
		{reg(math.MinInt), nil, math.MinInt, 9, false},
		{loc(0), nil, 9, math.MinInt, false},
		{loc(-1), nil, 9, -1, false},
		{of(0, 0), []int{-1, 5}, 9, 9, false},
		{of(0, -1), []int{-1, 5}, 9, 9, false},
		{of(1, 4), []int{-1, 5}, 0, 0, true},
		{reg(math.MaxInt - 1), nil, math.MaxInt, 0, true},
		{reg(math.MaxInt), nil, math.MaxInt, 0, false},
		{loc(math.MaxInt - 1), nil, 0, math.MaxInt, true},
		{of(0, math.MaxInt-1), []int{math.MaxInt}, 0, 0, true},
	} {
		if got := code.Right([]api.Op{c.o}, c.regs, c.own, c.locs); got != c.want {
			t.Errorf("Right of %s for %v, %d, %d = %v", written([]api.Op{c.o}), c.regs, c.own, c.locs, got)
		}
	}
}

// Nothing is asked of the numbers that a step does not use.
func TestOtherFields(t *testing.T) {
	for _, n := range append(far, 1, 7) {
		valid(t, 1, api.Op{Op: api.Num, N: 1, T: n})
		valid(t, 1, api.Op{Op: api.Reg, N: 1, T: n})
		valid(t, 1, api.Op{Op: api.Loc, N: 3, T: n})
		valid(t, 1, num(1), api.Op{Op: api.Not, N: n, T: n})
		for _, kind := range binary {
			valid(t, 2, num(1), num(2), api.Op{Op: kind, N: n, T: n})
		}
	}
}

// P6.2: the stack.

func TestStack(t *testing.T) {
	not := op(api.Not)
	invalid(t, 0)
	invalid(t, 2, num(1), num(2))
	invalid(t, 2, num(1), num(2), not)
	invalid(t, 3, num(1), num(2), num(3))
	invalid(t, -1, not)
	invalid(t, -1, not, num(1))
	for _, kind := range binary {
		o := op(kind)
		invalid(t, -1, o)
		invalid(t, -1, num(1), o)
		invalid(t, -1, num(1), o, num(2))
		invalid(t, -1, o, num(1), num(2))
		invalid(t, -1, num(1), o, num(2), o)
		invalid(t, -1, num(1), num(2), o, o)
		invalid(t, -1, num(1), num(2), o, o, num(3))
		invalid(t, -1, num(1), not, o, num(2))
		invalid(t, 3, num(1), num(2), num(3), o)
		invalid(t, 2, num(1), num(2), o, num(3))
	}
}

func TestNoOperator(t *testing.T) {
	for _, kind := range []int{0, -1, -14, 15, 16, 20, 22, 1 << 32, 1<<32 + api.Num, math.MaxInt, math.MinInt} {
		o := op(kind)
		invalid(t, -1, o)
		invalid(t, -1, num(1), o)
		invalid(t, -1, o, num(1))
		invalid(t, -1, num(1), num(2), o)
		invalid(t, -1, num(1), num(2), op(api.Add), o)
		invalid(t, -1, num(1), o, num(2), op(api.Add))
	}
}

func TestManySteps(t *testing.T) {
	const n = 100000
	many := make([]api.Op, 0, 2*n+1)
	for range n + 1 {
		many = append(many, num(1))
	}
	invalid(t, n+1, many...)
	for range n {
		many = append(many, op(api.Add))
	}
	valid(t, n+1, many...)
	if v, ok := code.Value(many, 7, nil, nil, nil); !ok || v != (n+1)%7 {
		t.Error(v, ok)
	}
	for i := n + 1; i < len(many); i++ {
		many[i] = op(api.Not)
	}
	invalid(t, n+1, many...)
}

// P6.2: against another way to tell, by which expressions in a text are replaced by their value
// until nothing is left to be replaced.

var replaced = strings.NewReplacer("vn", "v", "vvb", "v")

// reduced is a text in which v is a number, n an operator with one operand and b one with two.
func reduced(s string) string {
	for {
		r := replaced.Replace(s)
		if r == s {
			return s
		}
		s = r
	}
}

// height is the depth of such code, or -1.
func height(s string) int {
	greatest := 0
	for i := range len(s) + 1 {
		r := reduced(s[:i])
		if strings.Trim(r, "v") != "" {
			return -1
		}
		greatest = max(greatest, len(r))
	}
	return greatest
}

func TestShortCode(t *testing.T) {
	steps := []api.Op{num(3), op(api.Not), op(api.Lt), op(0)}
	var grow func(l []api.Op, s string)
	grow = func(l []api.Op, s string) {
		if got, want := code.Right(l, nil, 0, 0), reduced(s) == "v"; got != want {
			t.Fatalf("Right of %s = %v", s, got)
		}
		if got, want := code.Depth(l), height(s); got != want {
			t.Fatalf("Depth of %s = %d, want %d", s, got, want)
		}
		if len(l) == 8 {
			return
		}
		for i, o := range steps {
			grow(append(l, o), s+"vnb?"[i:i+1])
		}
	}
	grow(make([]api.Op, 0, 8), "")
}
