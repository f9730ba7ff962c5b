package store_test

import (
	"slices"
	"testing"

	"spinnaker/api"
	"spinnaker/store"
)

// P8.1 to P8.4 and P8.6: against buffers of another make, which keep the stores of all locations
// in the order in which they came.

// arrived is a buffer as its stores in the order in which they were pushed.
type arrived struct {
	model int
	all   []api.Entry
}

// of are the stores to a location.
func (a arrived) of(loc int) []api.Entry {
	var l []api.Entry
	for _, e := range a.all {
		if e.Loc == loc {
			l = append(l, e)
		}
	}
	return l
}

// buffer is how the chapter lays the buffer out, for locations below 3.
func (a arrived) buffer() []api.Entry {
	switch a.model {
	case api.TSO:
		return a.all
	case api.PSO:
		return slices.Concat(a.of(0), a.of(1), a.of(2))
	}
	return nil
}

func (a arrived) push(e api.Entry) arrived {
	return arrived{a.model, append(slices.Clone(a.all), e)}
}

func (a arrived) pop(loc int) (arrived, api.Entry, bool) {
	for i, e := range a.all {
		if e.Loc == loc || a.model == api.TSO && loc < 0 {
			return arrived{a.model, slices.Delete(slices.Clone(a.all), i, i+1)}, e, true
		}
		if a.model == api.TSO { // only the first one can be popped
			break
		}
	}
	return a, api.Entry{}, false
}

func (a arrived) room(room, loc int) bool {
	if a.model == api.PSO {
		return len(a.of(loc)) < room
	}
	return len(a.all) < room
}

func (a arrived) last(loc int) (int, bool) {
	if l := a.of(loc); len(l) > 0 {
		return l[len(l)-1].N, true
	}
	return 0, false
}

func (a arrived) heads() []int {
	var l []int
	for loc := range 3 {
		if _, _, ok := a.pop(loc); ok {
			l = append(l, loc)
		}
	}
	return l
}

// sameAs fails the test unless the buffer answers what the other one does.
func sameAs(t *testing.T, b []api.Entry, a arrived) {
	t.Helper()
	if !slices.Equal(b, a.buffer()) {
		t.Fatalf("model %d: %v, not %v", a.model, b, a.buffer())
	}
	if got := store.Heads(b, a.model); !slices.Equal(got, a.heads()) {
		t.Fatalf("model %d, %v: Heads %v", a.model, b, got)
	}
	for loc := -1; loc <= 3; loc++ {
		n, ok := store.Last(b, loc)
		if wantN, want := a.last(loc); n != wantN || ok != want {
			t.Fatalf("model %d, %v: Last of %d is %d, %v", a.model, b, loc, n, ok)
		}
		for room := -1; room <= 6; room++ {
			if got := store.Room(b, a.model, room, loc); got != a.room(room, loc) {
				t.Fatalf("model %d, %v: Room %d of %d is %v", a.model, b, room, loc, got)
			}
		}
	}
}

// walk does all sequences of so many pushes and pops.
func walk(t *testing.T, b []api.Entry, a arrived, steps int) {
	t.Helper()
	sameAs(t, b, a)
	for loc := -1; loc <= 3; loc++ {
		rest, e, ok := store.Pop(b, a.model, loc)
		left, wantE, want := a.pop(loc)
		if e != wantE || ok != want || !slices.Equal(rest, left.buffer()) {
			t.Fatalf("model %d, %v: Pop of %d is %v, %v, %v", a.model, b, loc, rest, e, ok)
		}
		if ok && steps > 0 {
			walk(t, rest, left, steps-1)
		}
	}
	for loc := range 3 {
		if e := (api.Entry{Loc: loc, N: steps}); steps > 0 {
			walk(t, store.Push(b, a.model, e), a.push(e), steps-1)
		}
	}
}

func TestSecond(t *testing.T) {
	for _, model := range []int{api.TSO, api.PSO} {
		walk(t, nil, arrived{model: model}, 7)
	}
}

// P8.6: properties.

// drawn are numbers below n that follow no plain pattern, always the same ones.
func drawn(n int) func() int {
	state := uint64(1)
	return func() int {
		state = state*6364136223846793005 + 1442695040888963407
		return int(state>>33) % n
	}
}

// popped takes an entry out, by this location, and fails the test if there is none.
func popped(t *testing.T, b []api.Entry, model, loc int) ([]api.Entry, api.Entry) {
	t.Helper()
	rest, e, ok := store.Pop(b, model, loc)
	if !ok || len(rest) != len(b)-1 {
		t.Fatalf("%v, model %d: Pop of %d: %v, %v", b, model, loc, rest, ok)
	}
	return rest, e
}

func TestEmptyQueue(t *testing.T) {
	for loc := range 6 {
		for n := range 16 {
			e := api.Entry{Loc: loc, N: n}
			for _, model := range []int{api.TSO, api.PSO} {
				if b, got := popped(t, store.Push(nil, model, e), model, loc); got != e || len(b) > 0 {
					t.Errorf("model %d: %v is popped for %v", model, got, e)
				}
			}
			b := buffer("0:1 0:2 1:1 2:1 3:1 3:2 4:1 5:1")
			b = slices.DeleteFunc(b, func(x api.Entry) bool { return x.Loc == loc })
			if rest, got := popped(t, store.Push(b, api.PSO, e), api.PSO, loc); got != e || !slices.Equal(rest, b) {
				t.Errorf("%v is popped for %v, and %v left of %v", got, e, rest, b)
			}
		}
	}
}

// Many pushes and pops: what comes out of a location is what went in, in that order.
func TestOrder(t *testing.T) {
	for _, model := range []int{api.TSO, api.PSO} {
		draw := drawn(1000)
		var b []api.Entry
		var in, out [6][]int
		for i := range 5000 {
			if loc := draw() % 6; draw() < 520 { // a few more pushes than pops
				b = store.Push(b, model, api.Entry{Loc: loc, N: i})
				in[loc] = append(in[loc], i)
			} else if heads := store.Heads(b, model); len(heads) > 0 {
				var e api.Entry
				b, e = popped(t, b, model, heads[draw()%len(heads)])
				out[e.Loc] = append(out[e.Loc], e.N)
			}
		}
		for loc := range in {
			for heads := store.Heads(b, model); len(heads) > 0; heads = store.Heads(b, model) {
				var e api.Entry
				b, e = popped(t, b, model, heads[len(heads)-1])
				out[e.Loc] = append(out[e.Loc], e.N)
			}
			if len(in[loc]) < 100 || !slices.Equal(in[loc], out[loc]) {
				t.Errorf("model %d, location %d: pushed %v, popped %v", model, loc, in[loc], out[loc])
			}
		}
	}
}

// A valid buffer stays valid when an entry is pushed where there is room, or is popped.
func TestStaysRight(t *testing.T) {
	for _, model := range []int{api.TSO, api.PSO} {
		for room := 1; room <= 3; room++ {
			for _, b := range built(model, room, 2, 3) {
				for loc := range 3 {
					after := store.Push(b, model, api.Entry{Loc: loc, N: 1})
					has := store.Room(b, model, room, loc)
					if got := store.Right(after, model, room, 2, 3); got != has {
						t.Fatalf("%v, model %d, room %d, location %d: room %v, but then valid %v", b, model, room, loc, has, got)
					}
					if rest, _, _ := store.Pop(b, model, loc); !store.Right(rest, model, room, 2, 3) {
						t.Fatalf("%v, model %d: Pop of %d leaves %v", b, model, loc, rest)
					}
				}
			}
		}
	}
}
