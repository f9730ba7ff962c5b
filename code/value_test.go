package code_test

import (
	"math"
	"slices"
	"testing"

	"spinnaker/api"
	"spinnaker/code"
)

// place is where code reads its numbers.
type place struct {
	own []int
	all [][]int
	mem []int
}

// gives fails the test unless the code has this value.
func gives(t *testing.T, want, mod int, p place, l ...api.Op) {
	t.Helper()
	if v, ok := code.Value(l, mod, p.own, p.all, p.mem); !ok || v != want {
		t.Errorf("Value of %s modulo %d with %v = %d, %v, want %d", written(l), mod, p, v, ok, want)
	}
}

// none fails the test unless Value returns 0 and false.
func none(t *testing.T, mod int, p place, l ...api.Op) {
	t.Helper()
	if v, ok := code.Value(l, mod, p.own, p.all, p.mem); ok || v != 0 {
		t.Errorf("Value of %s modulo %d with %v = %d, %v", written(l), mod, p, v, ok)
	}
}

// P6.3: what is pushed.

func TestValuePushed(t *testing.T) {
	p := place{own: []int{4, 5}, all: [][]int{nil, {1, 2, 3}, {6}}, mem: []int{0, 7}}
	gives(t, 4, 8, p, reg(0))
	gives(t, 5, 8, p, reg(1))
	gives(t, 0, 8, p, loc(0))
	gives(t, 7, 8, p, loc(1))
	gives(t, 1, 8, p, of(1, 0))
	gives(t, 2, 8, p, of(1, 1))
	gives(t, 3, 8, p, of(1, 2))
	gives(t, 6, 8, p, of(2, 0))
	gives(t, 3, 8, p, num(3))
	// Fields that a step does not have make no difference.
	gives(t, 5, 8, p, api.Op{Op: api.Reg, N: 1, T: -9})
	gives(t, 7, 8, p, api.Op{Op: api.Loc, N: 1, T: 2})
	gives(t, 1, 8, p, num(3), num(6), api.Op{Op: api.Add, N: 5, T: math.MinInt})
}

func TestValueNum(t *testing.T) {
	for mod := 2; mod <= api.MaxMod; mod++ {
		for n := range 10000 {
			gives(t, counted(mod, 0, n), mod, place{}, num(n))
		}
	}
	gives(t, 0, 16, place{}, num(16))
	gives(t, 15, 16, place{}, num(9999))
	gives(t, 1, 2, place{}, num(9999))
	// Both operands are below mod before they are compared, or tested for 0.
	gives(t, 1, 4, place{}, num(9), num(1), op(api.Eq))
	gives(t, 0, 4, place{}, num(9), num(2), op(api.Ne), op(api.Not))
	gives(t, 1, 4, place{}, num(8), num(3), op(api.Lt))
	gives(t, 1, 4, place{}, num(8), op(api.Not))
	gives(t, 0, 4, place{}, num(8), num(1), op(api.And))
	gives(t, 0, 4, place{}, num(8), num(4), op(api.Or))
}

// P6.3: the operators, each by another rule.

// counted is n numbers after a number, where 0 comes after mod - 1.
func counted(mod, from, n int) int {
	for ; n >= mod; n -= mod {
	}
	for range n {
		from++
		if from == mod {
			from = 0
		}
	}
	return from
}

// applied is what an operator makes of two numbers below mod.
func applied(mod, kind, a, b int) int {
	holds := false
	switch kind {
	case api.Add:
		return counted(mod, a, b)
	case api.Sub:
		for x := range mod {
			if counted(mod, b, x) == a {
				return x
			}
		}
	case api.Mul:
		sum := 0
		for range b {
			sum = counted(mod, sum, a)
		}
		return sum
	case api.Eq:
		holds = a <= b && b <= a
	case api.Ne:
		holds = a < b || b < a
	case api.Lt:
		holds = b-a > 0
	case api.Le:
		holds = !(a > b)
	case api.And:
		holds = a*b > 0
	case api.Or:
		holds = a+b > 0
	case api.Not:
		holds = !(a > 0)
	}
	if holds {
		return 1
	}
	return 0
}

func TestValueOperators(t *testing.T) {
	for mod := 2; mod <= api.MaxMod; mod++ {
		for a := range mod {
			p := place{own: []int{a}}
			gives(t, applied(mod, api.Not, a, 0), mod, p, reg(0), op(api.Not))
			for b := range mod {
				p := place{own: []int{a, b}, all: [][]int{{b}, {b, a}}, mem: []int{b, b, a}}
				for _, kind := range binary {
					want := applied(mod, kind, a, b)
					gives(t, want, mod, p, reg(0), reg(1), op(kind))
					gives(t, want, mod, p, loc(2), of(1, 0), op(kind))
					gives(t, want, mod, p, of(1, 1), num(b+2*mod), op(kind))
					gives(t, want, mod, p, num(a+mod), loc(0), op(kind))
				}
			}
		}
	}
}

func TestValueDifferences(t *testing.T) {
	gives(t, 15, 16, place{}, num(0), num(1), op(api.Sub))
	gives(t, 1, 16, place{}, num(0), num(15), op(api.Sub))
	gives(t, 1, 2, place{}, num(0), num(1), op(api.Sub))
	gives(t, 1, 5, place{}, num(0), num(4), op(api.Sub))
	// A difference is not below 0 where it is compared, or multiplied.
	gives(t, 0, 5, place{}, num(0), num(1), op(api.Sub), num(1), op(api.Lt))
	gives(t, 2, 5, place{}, num(0), num(1), op(api.Sub), num(3), op(api.Mul))
	gives(t, 3, 5, place{}, num(0), num(1), op(api.Sub), num(1), op(api.Sub))
}

func TestValueNested(t *testing.T) {
	p := place{own: []int{3}}
	gives(t, 0, 4, p, reg(0), num(1), op(api.Add))
	// (1 - 2) - 3, 1 - (2 - 3) and 2 * 3 - !0 + 5.
	gives(t, 6, 10, p, num(1), num(2), op(api.Sub), num(3), op(api.Sub))
	gives(t, 2, 10, p, num(1), num(2), num(3), op(api.Sub), op(api.Sub))
	gives(t, 0, 10, p, num(2), num(3), op(api.Mul), num(0), op(api.Not), op(api.Sub), num(5), op(api.Add))
}

// P6.3: what has no value.

func TestValueModulus(t *testing.T) {
	gives(t, 1, 2, place{}, num(1))
	gives(t, 1, 16, place{}, num(1))
	for _, mod := range []int{1, 17, 0, -1, -2, -16, 18, 1<<32 + 2, math.MinInt, math.MaxInt} {
		none(t, mod, place{}, num(1))
		none(t, mod, place{}, num(0))
		none(t, mod, place{own: []int{0}, all: [][]int{{0}}, mem: []int{0}}, reg(0))
	}
}

// The numbers must be below mod, whether the code reads them or not.
func TestValueNumbers(t *testing.T) {
	for _, mod := range []int{2, 7, 16} {
		for _, x := range []int{0, 1, mod - 1} {
			gives(t, x, mod, place{own: []int{0, x}}, reg(1))
			gives(t, x, mod, place{all: [][]int{{}, {0, x}}}, of(1, 1))
			gives(t, x, mod, place{mem: []int{0, x}}, loc(1))
		}
		for _, x := range []int{mod, mod + 1, 2 * mod, -1, -mod, 1<<32 + 1, math.MaxInt, math.MinInt} {
			for _, l := range [][]int{{x}, {x, 0, 0}, {0, x, 1}, {0, 1, x}} {
				none(t, mod, place{own: l}, num(1))
				none(t, mod, place{mem: l}, num(1))
				none(t, mod, place{all: [][]int{l}}, num(1))
				none(t, mod, place{all: [][]int{l, {0}, nil}}, num(1))
				none(t, mod, place{all: [][]int{nil, {0}, l}}, num(1))
				none(t, mod, place{own: l, all: [][]int{{0}}, mem: []int{0}}, loc(0))
				none(t, mod, place{own: []int{0}, all: [][]int{l}, mem: []int{0}}, loc(0))
				none(t, mod, place{own: []int{0}, all: [][]int{{0}}, mem: l}, reg(0))
			}
		}
	}
}

func TestValueNotValid(t *testing.T) {
	p := place{own: []int{1, 1}, all: [][]int{nil, {1, 1, 1}, {1}, nil}, mem: []int{1, 1, 1, 1}}
	for _, l := range [][]api.Op{
		nil,
		{},
		{num(10000)}, {num(-1)},
		{reg(2)}, {reg(-1)}, {reg(math.MaxInt)},
		{loc(4)}, {loc(-1)}, {loc(math.MinInt)},
		{of(0, 0)}, {of(1, 3)}, {of(1, -1)}, {of(2, 1)}, {of(3, 0)}, {of(4, 0)}, {of(-1, 0)},
		{num(1), num(1)},
		{num(1), num(1), op(api.Not)},
		{op(api.Not)},
		{op(api.Add)},
		{num(1), op(api.Add)},
		{num(1), op(api.Add), num(1), op(api.Add)},
		{op(0)}, {op(-1)}, {op(15)},
		{num(1), op(15)},
		{num(1), num(1), op(0)},
	} {
		none(t, 4, p, l...)
	}
	for _, o := range []api.Op{reg(0), loc(0), of(0, 0)} {
		none(t, 4, place{}, o)
		none(t, 4, place{all: [][]int{nil}}, o)
	}
	none(t, 4, place{all: p.all, mem: p.mem}, reg(0))
	none(t, 4, place{own: p.own, all: p.all}, loc(0))
	none(t, 4, place{own: p.own, mem: p.mem}, of(1, 0))
}

// P6.3, P6.4: against the value of the expression itself.

// meant is the value of the expression that begins a list, and what is behind it.
func meant(mod int, l []api.Node, named func(api.Node) int) (int, []api.Node) {
	n, rest := l[0], l[1:]
	switch n.Op {
	case api.Num:
		return counted(mod, 0, n.N), rest
	case api.Reg, api.Loc, api.Of:
		return named(n), rest
	}
	a, rest := meant(mod, rest, named)
	if n.Op == api.Not {
		return applied(mod, n.Op, a, 0), rest
	}
	b, rest := meant(mod, rest, named)
	return applied(mod, n.Op, a, b), rest
}

func TestValueOfThread(t *testing.T) {
	leaves := []api.Node{{Op: api.Num, N: 17}, {Op: api.Reg, Name: "a"}, {Op: api.Reg, Name: "b"}}
	regs := []string{"b", "a"}
	for n := range 6 {
		expressions(n, leaves, append(binary, api.Not), func(l []api.Node) {
			ops, ok := code.Thread(l, regs)
			if !ok || !code.Right(ops, nil, 2, 0) {
				t.Fatalf("Thread(%v) = %s, %v", l, written(ops), ok)
			}
			for _, c := range []struct{ mod, a, b int }{{2, 1, 0}, {3, 1, 2}, {16, 15, 3}} {
				want, _ := meant(c.mod, l, func(n api.Node) int { return map[string]int{"a": c.a, "b": c.b}[n.Name] })
				gives(t, want, c.mod, place{own: []int{c.b, c.a}}, ops...)
				if want < 0 || want >= c.mod {
					t.Fatal(want, c.mod)
				}
			}
		})
	}
}

func TestValueOfClaim(t *testing.T) {
	p := program(t, "mod 4; loc y = 0; loc x = 1; thread u { reg b, a; } thread t { reg c, a; }")
	leaves := []api.Node{{Op: api.Loc, Name: "x"}, {Op: api.Of, In: "t", Name: "a"}, {Op: api.Of, In: "u", Name: "a"}}
	for n := range 6 {
		expressions(n, leaves, append(binary, api.Not), func(l []api.Node) {
			ops, ok := code.Claim(l, p)
			if !ok || !code.Right(ops, []int{2, 2}, 0, 2) {
				t.Fatalf("Claim(%v) = %s, %v", l, written(ops), ok)
			}
			for _, c := range []struct{ x, t, u int }{{3, 2, 1}, {0, 3, 2}} {
				want, _ := meant(4, l, func(n api.Node) int { return map[string]int{"": c.x, "t": c.t, "u": c.u}[n.In] })
				gives(t, want, 4, place{all: [][]int{{0, c.u}, {0, c.t}}, mem: []int{0, c.x}}, ops...)
			}
		})
	}
}

// P6.4: the operands of a sum may change places.

func TestValueOfSums(t *testing.T) {
	leaves := []api.Node{{Op: api.Num, N: 9}, {Op: api.Reg, Name: "a"}, {Op: api.Reg, Name: "b"}}
	var terms [][]api.Node
	for n := range 4 {
		expressions(n, leaves, append(binary, api.Not), func(l []api.Node) { terms = append(terms, slices.Clone(l)) })
	}
	add := []api.Node{{Op: api.Add}}
	p := place{own: []int{5, 3}}
	for _, a := range terms {
		for _, b := range terms {
			x, _ := code.Thread(slices.Concat(add, a, b), []string{"a", "b"})
			y, _ := code.Thread(slices.Concat(add, b, a), []string{"a", "b"})
			v, ok := code.Value(x, 7, p.own, p.all, p.mem)
			if !ok || v < 0 || v >= 7 {
				t.Fatal(written(x), v, ok)
			}
			gives(t, v, 7, p, y...)
		}
	}
	if len(terms) < 80 {
		t.Error(len(terms))
	}
}

// R4: what is passed is kept.

func TestValueKeeps(t *testing.T) {
	l := padded([]api.Op{reg(1), loc(0), op(api.Sub), of(0, 1), op(api.Add)}, num(77))
	p := place{own: padded([]int{1, 2}, 77), all: padded([][]int{padded([]int{3, 4}, 77)}, []int{77}), mem: padded([]int{5}, 77)}
	regs := padded([]int{2}, 77)
	ops := slices.Clone(spare(l))
	for range 2 {
		gives(t, 1, 6, p, l...)
		none(t, 5, p, l...)
		if !code.Right(l, regs, 2, 1) || code.Right(l, regs, 1, 1) || code.Depth(l) != 2 {
			t.Error(written(l))
		}
	}
	numbers := slices.Concat(spare(p.own), spare(p.mem), spare(p.all[0]), spare(p.all)[1], spare(regs))
	if !slices.Equal(spare(l), ops) || !slices.Equal(numbers, []int{1, 2, 77, 5, 77, 3, 4, 77, 77, 2, 77}) {
		t.Error(l, numbers)
	}
}
