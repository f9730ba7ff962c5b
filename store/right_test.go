package store_test

import (
	"fmt"
	"math"
	"slices"
	"testing"

	"spinnaker/api"
	"spinnaker/store"
)

// models are the models that there are.
var models = []int{api.SC, api.TSO, api.PSO}

// rightIf fails the test unless the buffer is valid exactly if want holds.
func rightIf(t *testing.T, want bool, b string, model, room, mod, locs int) {
	t.Helper()
	if got := store.Right(buffer(b), model, room, mod, locs); got != want {
		t.Errorf("%q, model %d, room %d, mod %d, %d locations: %v", b, model, room, mod, locs, got)
	}
}

// P8.5: Right.

func TestRightBounds(t *testing.T) {
	for _, model := range models {
		for room, want := range map[int]bool{-1: false, 0: false, 1: true, 2: true, 3: true, 4: true, 5: false, math.MinInt: false, math.MaxInt: false} {
			rightIf(t, want, "", model, room, 2, 1)
			rightIf(t, want && model != api.SC, "0:1", model, room, 2, 1)
		}
		for mod, want := range map[int]bool{-1: false, 0: false, 1: false, 2: true, 3: true, 15: true, 16: true, 17: false, math.MinInt: false, math.MaxInt: false} {
			rightIf(t, want, "", model, 1, mod, 1)
			rightIf(t, want && model != api.SC, "0:0", model, 1, mod, 1)
		}
		for _, locs := range []int{-1, 0, 1, 6, 7, math.MinInt, math.MaxInt} {
			rightIf(t, true, "", model, 1, 2, locs)
			rightIf(t, locs > 0 && model != api.SC, "0:0", model, 1, 2, locs)
		}
	}
	for _, model := range others {
		rightIf(t, false, "", model, 1, 2, 1)
		rightIf(t, false, "0:1", model, 1, 2, 1)
	}
}

func TestRightEntries(t *testing.T) {
	for _, model := range []int{api.TSO, api.PSO} {
		for loc, want := range map[int]bool{-2: false, -1: false, 0: true, 1: true, 2: true, 3: false, 4: false, math.MinInt: false, math.MaxInt: false} {
			rightIf(t, want, fmt.Sprintf("%d:0", loc), model, 4, 4, 3)
		}
		for n, want := range map[int]bool{-2: false, -1: false, 0: true, 3: true, 4: false, 5: false, math.MinInt: false, math.MaxInt: false} {
			rightIf(t, want, fmt.Sprintf("0:%d", n), model, 4, 4, 3)
			rightIf(t, want, fmt.Sprintf("0:%d 1:0 2:0", n), model, 4, 4, 3)
			rightIf(t, want, fmt.Sprintf("0:0 1:%d 2:0", n), model, 4, 4, 3)
			rightIf(t, want, fmt.Sprintf("0:0 1:0 2:%d", n), model, 4, 4, 3)
		}
		rightIf(t, false, "-1:0 0:0 1:0", model, 4, 4, 3)
		rightIf(t, false, "0:0 1:0 3:0", model, 4, 4, 3)
	}
}

func TestRightModels(t *testing.T) {
	for _, c := range []struct {
		b   string
		tso int // the least room
		pso int // or 0 if the queues do not follow each other
	}{
		{b: "0:1", tso: 1, pso: 1},
		{b: "0:1 1:1", tso: 2, pso: 1},
		{b: "1:1 0:1", tso: 2},
		{b: "0:1 0:1", tso: 2, pso: 2},
		{b: "0:1 1:1 0:1", tso: 3},
		{b: "0:1 0:0 1:1", tso: 3, pso: 2},
		{b: "0:1 1:1 1:0", tso: 3, pso: 2},
		{b: "2:1 2:1 2:1", tso: 3, pso: 3},
		{b: "0:1 0:1 1:1 1:1", tso: 4, pso: 2},
		{b: "0:1 1:1 1:1 1:1", tso: 4, pso: 3},
		{b: "1:1 1:1 1:1 1:1", tso: 4, pso: 4},
		{b: "0:1 1:1 2:1 1:1", tso: 4},
		{b: "1:1 1:1 1:1 1:1 1:1", tso: 5, pso: 5},
		{b: "0:1 1:1 1:1 1:1 1:1", tso: 5, pso: 4},
		{b: "0:0 0:0 0:0 0:0 1:1 1:1 1:1 1:1 2:1 2:1 2:1 2:1", tso: 12, pso: 4},
		{b: "0:0 0:0 0:0 0:0 1:1 1:1 1:1 1:1 2:1 2:1 2:1 2:1 2:1", tso: 13, pso: 5},
		{b: "0:0 0:0 0:0 0:0 0:0 1:1 1:1 1:1 1:1 2:1 2:1 2:1 2:1", tso: 13, pso: 5},
		{b: "0:1 1:1 2:1", tso: 3, pso: 1},
		{b: "2:1 1:1 0:1", tso: 3},
	} {
		for room := 1; room <= api.MaxRoom; room++ {
			rightIf(t, room >= c.tso, c.b, api.TSO, room, 2, 3)
			rightIf(t, c.pso > 0 && room >= c.pso, c.b, api.PSO, room, 2, 3)
			rightIf(t, false, c.b, api.SC, room, 2, 3)
		}
	}
}

// built are all valid buffers for a model, made entry by entry rather than checked.
func built(model, room, mod, locs int) [][]api.Entry {
	found := [][]api.Entry{nil}
	if model == api.SC {
		return found
	}
	for i := 0; i < len(found); i++ { // found grows meanwhile
		b := found[i]
		for loc := range locs {
			if !mayFollow(b, model, room, loc) {
				continue
			}
			for n := range mod {
				found = append(found, append(slices.Clone(b), api.Entry{Loc: loc, N: n}))
			}
		}
	}
	return found
}

// mayFollow tells whether an entry of a location may be the next one of a valid buffer.
func mayFollow(b []api.Entry, model, room, loc int) bool {
	if model == api.TSO {
		return len(b) < room
	}
	if len(b) == 0 {
		return true
	}
	last := b[len(b)-1].Loc
	return loc > last || loc == last && (len(b) < room || b[len(b)-room].Loc < loc)
}

// lists are all lists of at most length entries with these numbers from -1 on.
func lists(length, locs, mod int) [][]api.Entry {
	all := [][]api.Entry{nil}
	for i := 0; i < len(all); i++ {
		if len(all[i]) == length {
			break
		}
		for loc := -1; loc <= locs; loc++ {
			for n := -1; n <= mod; n++ {
				all = append(all, append(slices.Clone(all[i]), api.Entry{Loc: loc, N: n}))
			}
		}
	}
	return all
}

// P8.5 for all lists of at most 4 entries with numbers from -1 to 2, and for longer ones that are valid.
func TestRightAll(t *testing.T) {
	all := lists(4, 2, 2)
	for _, model := range models {
		for room := 1; room <= api.MaxRoom; room++ {
			valid := map[string]bool{}
			for _, b := range built(model, room, 2, 2) {
				valid[written(b)] = true
				if !store.Right(b, model, room, 2, 2) {
					t.Fatalf("%v is not valid for model %d, room %d", b, model, room)
				}
			}
			for _, b := range all {
				if got := store.Right(b, model, room, 2, 2); got && !valid[written(b)] {
					t.Fatalf("%v is valid for model %d, room %d", b, model, room)
				}
			}
		}
	}
}
