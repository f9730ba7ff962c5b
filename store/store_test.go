package store_test

import (
	"fmt"
	"math"
	"slices"
	"strings"
	"testing"

	"spinnaker/api"
	"spinnaker/store"
)

// others are models that there are not.
var others = []int{0, 4, 5, -1, -api.TSO, -api.PSO, math.MinInt, math.MaxInt}

// buffer reads entries, each written as its location and its number: "1:5 0:6".
func buffer(text string) []api.Entry {
	var b []api.Entry
	for _, word := range strings.Fields(text) {
		var e api.Entry
		if _, err := fmt.Sscanf(word, "%d:%d", &e.Loc, &e.N); err != nil {
			panic(err)
		}
		b = append(b, e)
	}
	return b
}

// written is a buffer as buffer reads it.
func written(b []api.Entry) string {
	var words []string
	for _, e := range b {
		words = append(words, fmt.Sprintf("%d:%d", e.Loc, e.N))
	}
	return strings.Join(words, " ")
}

// P8.1: Room.

func TestRoom(t *testing.T) {
	for _, c := range []struct {
		b                string
		model, room, loc int
		want             bool
	}{
		{"", api.TSO, 1, 0, true},
		{"", api.TSO, 0, 0, false},
		{"", api.TSO, -1, 0, false},
		{"0:1", api.TSO, 1, 0, false},
		{"0:1", api.TSO, 1, 1, false},
		{"0:1", api.TSO, 2, 0, true},
		{"0:1", api.TSO, 0, 1, false},
		{"0:1 1:1 0:2", api.TSO, 3, 2, false},
		{"0:1 1:1 0:2", api.TSO, 2, 2, false},
		{"0:1 1:1 0:2", api.TSO, 4, 0, true},
		{"0:1 1:1 0:2", api.TSO, math.MaxInt, -1, true},
		{"0:1 1:1 0:2", api.TSO, math.MinInt, 0, false},
		{"", api.PSO, 1, 0, true},
		{"", api.PSO, 0, 0, false},
		{"", api.PSO, -1, 0, false},
		{"0:1", api.PSO, 1, 0, false},
		{"0:1", api.PSO, 1, 1, true},
		{"0:1", api.PSO, 0, 1, false},
		{"0:1", api.PSO, 2, 0, true},
		{"0:1 1:1 1:2 1:3 2:2", api.PSO, 3, 1, false},
		{"0:1 1:1 1:2 1:3 2:2", api.PSO, 2, 1, false},
		{"0:1 1:1 1:2 1:3 2:2", api.PSO, 4, 1, true},
		{"0:1 1:1 1:2 1:3 2:2", api.PSO, 1, 0, false},
		{"0:1 1:1 1:2 1:3 2:2", api.PSO, 2, 0, true},
		{"0:1 1:1 1:2 1:3 2:2", api.PSO, 1, 2, false},
		{"0:1 1:1 1:2 1:3 2:2", api.PSO, 2, 2, true},
		{"0:1 1:1 1:2 1:3 2:2", api.PSO, 1, 3, true},
		{"0:1 1:1 1:2 1:3 2:2", api.PSO, 1, -1, true},
		{"0:1 1:1 1:2 1:3 2:2", api.PSO, math.MaxInt, 1, true},
		{"0:1 1:1 1:2 1:3 2:2", api.PSO, math.MinInt, 3, false},
	} {
		if got := store.Room(buffer(c.b), c.model, c.room, c.loc); got != c.want {
			t.Errorf("%q, model %d, room %d, location %d: %v", c.b, c.model, c.room, c.loc, got)
		}
	}
}

func TestRoomElsewhere(t *testing.T) {
	for _, model := range append(others, api.SC) {
		for _, b := range []string{"", "0:1", "0:1 1:1"} {
			for _, room := range []int{0, 1, 4, math.MaxInt} {
				if store.Room(buffer(b), model, room, 0) {
					t.Errorf("%q, model %d: room of %d", b, model, room)
				}
			}
		}
	}
}

// P8.2: Push.

func TestPush(t *testing.T) {
	for _, c := range []struct{ b, e, tso, pso string }{
		{"", "1:5", "1:5", "1:5"},
		{"1:5", "1:6", "1:5 1:6", "1:5 1:6"},
		{"1:5", "0:6", "1:5 0:6", "0:6 1:5"},
		{"1:5", "2:6", "1:5 2:6", "1:5 2:6"},
		{"0:1 2:1", "1:2", "0:1 2:1 1:2", "0:1 1:2 2:1"},
		{"0:1 2:1", "0:1", "0:1 2:1 0:1", "0:1 0:1 2:1"},
		{"0:1 0:2 1:3 1:4 2:5 2:6", "0:7", "0:1 0:2 1:3 1:4 2:5 2:6 0:7", "0:1 0:2 0:7 1:3 1:4 2:5 2:6"},
		{"0:1 0:2 1:3 1:4 2:5 2:6", "1:7", "0:1 0:2 1:3 1:4 2:5 2:6 1:7", "0:1 0:2 1:3 1:4 1:7 2:5 2:6"},
		{"0:1 0:2 1:3 1:4 2:5 2:6", "2:7", "0:1 0:2 1:3 1:4 2:5 2:6 2:7", "0:1 0:2 1:3 1:4 2:5 2:6 2:7"},
		{"0:1 0:1 0:1 0:1", "0:1", "0:1 0:1 0:1 0:1 0:1", "0:1 0:1 0:1 0:1 0:1"}, // there is no room
		{"0:1 5:1", "-3:-9", "0:1 5:1 -3:-9", "-3:-9 0:1 5:1"},
		{"0:1 5:1", "99:99", "0:1 5:1 99:99", "0:1 5:1 99:99"},
	} {
		e := buffer(c.e)[0]
		if got := written(store.Push(buffer(c.b), api.TSO, e)); got != c.tso {
			t.Errorf("TSO: %q with %s is %q", c.b, c.e, got)
		}
		if got := written(store.Push(buffer(c.b), api.PSO, e)); got != c.pso {
			t.Errorf("PSO: %q with %s is %q", c.b, c.e, got)
		}
		for _, model := range append(others, api.SC) {
			if got := written(store.Push(buffer(c.b), model, e)); got != c.b {
				t.Errorf("model %d: %q with %s is %q", model, c.b, c.e, got)
			}
		}
	}
}

// pushed is what pushing these entries one by one gives.
func pushed(model int, text string) []api.Entry {
	var b []api.Entry
	for _, e := range buffer(text) {
		b = store.Push(b, model, e)
	}
	return b
}

func TestExample(t *testing.T) {
	if got := written(pushed(api.PSO, "1:5 0:6 1:7")); got != "0:6 1:5 1:7" {
		t.Error("PSO:", got)
	}
	if got := written(pushed(api.TSO, "1:5 0:6 1:7")); got != "1:5 0:6 1:7" {
		t.Error("TSO:", got)
	}
	if got := written(pushed(api.SC, "1:5 0:6 1:7")); got != "" {
		t.Error("SC:", got)
	}
}

// P8.3: Last and Heads.

func TestLast(t *testing.T) {
	for _, c := range []struct {
		b      string
		loc, n int
		ok     bool
	}{
		{"", 0, 0, false},
		{"", -1, 0, false},
		{"0:5", 0, 5, true},
		{"0:5", 1, 0, false},
		{"0:0", 0, 0, true},
		{"1:0 0:1 2:2 1:3", 1, 3, true},
		{"1:0 0:1 2:2 1:3", 0, 1, true},
		{"1:0 0:1 2:2 1:3", 2, 2, true},
		{"1:0 0:1 2:2 1:3", 3, 0, false},
		{"1:0 0:1 2:2 1:3", -1, 0, false},
		{"0:1 0:2 0:0 1:3 1:3", 0, 0, true},
		{"0:1 0:2 0:0 1:3 1:3", 1, 3, true},
		{"0:1 0:2 0:0 1:3 1:3", math.MaxInt, 0, false},
	} {
		if n, ok := store.Last(buffer(c.b), c.loc); n != c.n || ok != c.ok {
			t.Errorf("%q, location %d: %d, %v", c.b, c.loc, n, ok)
		}
	}
}

func TestHeads(t *testing.T) {
	for _, c := range []struct {
		b        string
		tso, pso []int
	}{
		{"", nil, nil},
		{"0:5", []int{0}, []int{0}},
		{"3:0", []int{3}, []int{3}},
		{"2:1 2:2", []int{2}, []int{2}},
		{"0:1 1:2", []int{0}, []int{0, 1}},
		{"0:1 0:2 1:1 3:1 3:2 3:3 5:1", []int{0}, []int{0, 1, 3, 5}},
		{"-1:1 0:2 99:1", []int{-1}, []int{-1, 0, 99}},
	} {
		if got := store.Heads(buffer(c.b), api.TSO); !slices.Equal(got, c.tso) {
			t.Errorf("TSO: %q: %v", c.b, got)
		}
		if got := store.Heads(buffer(c.b), api.PSO); !slices.Equal(got, c.pso) {
			t.Errorf("PSO: %q: %v", c.b, got)
		}
		for _, model := range append(others, api.SC) {
			if got := store.Heads(buffer(c.b), model); got != nil {
				t.Errorf("model %d: %q: %v", model, c.b, got)
			}
		}
	}
	if got := store.Heads(buffer("4:1 0:1 4:2"), api.TSO); !slices.Equal(got, []int{4}) {
		t.Errorf("TSO: not the first: %v", got)
	}
}

// P8.4: Pop.

func TestPop(t *testing.T) {
	for _, c := range []struct {
		b          string
		model, loc int
		left, e    string // no e where there is none to pop
	}{
		{"", api.TSO, 0, "", ""},
		{"", api.TSO, -1, "", ""},
		{"1:5", api.TSO, 1, "", "1:5"},
		{"1:5", api.TSO, -1, "", "1:5"},
		{"1:5", api.TSO, 0, "1:5", ""},
		{"1:5 0:6 1:7", api.TSO, -1, "0:6 1:7", "1:5"},
		{"1:5 0:6 1:7", api.TSO, math.MinInt, "0:6 1:7", "1:5"},
		{"1:5 0:6 1:7", api.TSO, 1, "0:6 1:7", "1:5"},
		{"1:5 0:6 1:7", api.TSO, 0, "1:5 0:6 1:7", ""}, // another's
		{"1:5 0:6 1:7", api.TSO, 2, "1:5 0:6 1:7", ""},
		{"1:5 0:6 1:7", api.TSO, math.MaxInt, "1:5 0:6 1:7", ""},
		{"0:5 0:5", api.TSO, 0, "0:5", "0:5"},
		{"", api.PSO, 0, "", ""},
		{"", api.PSO, -1, "", ""},
		{"1:5", api.PSO, 1, "", "1:5"},
		{"1:5", api.PSO, -1, "1:5", ""},
		{"1:5", api.PSO, 0, "1:5", ""},
		{"0:1 0:2 1:3 1:4 2:5 2:6", api.PSO, 0, "0:2 1:3 1:4 2:5 2:6", "0:1"},
		{"0:1 0:2 1:3 1:4 2:5 2:6", api.PSO, 1, "0:1 0:2 1:4 2:5 2:6", "1:3"},
		{"0:1 0:2 1:3 1:4 2:5 2:6", api.PSO, 2, "0:1 0:2 1:3 1:4 2:6", "2:5"},
		{"0:1 0:2 1:3 1:4 2:5 2:6", api.PSO, 3, "0:1 0:2 1:3 1:4 2:5 2:6", ""},
		{"0:1 0:2 1:3 1:4 2:5 2:6", api.PSO, -1, "0:1 0:2 1:3 1:4 2:5 2:6", ""},
		{"0:1 2:5", api.PSO, 1, "0:1 2:5", ""},
		{"0:1 2:5", api.PSO, 2, "0:1", "2:5"},
		{"0:0", api.PSO, 0, "", "0:0"},
	} {
		popIs(t, c.b, c.model, c.loc, c.left, c.e)
	}
}

// popIs fails the test unless this entry is popped, or none if e is empty, and this buffer is left.
func popIs(t *testing.T, b string, model, loc int, left, e string) {
	t.Helper()
	rest, got, ok := store.Pop(buffer(b), model, loc)
	var want api.Entry
	if e != "" {
		want = buffer(e)[0]
	}
	if written(rest) != left || got != want || ok != (e != "") {
		t.Errorf("%q, model %d, location %d: %q, %v, %v", b, model, loc, written(rest), got, ok)
	}
}

func TestPopElsewhere(t *testing.T) {
	for _, model := range append(others, api.SC) {
		for _, b := range []string{"", "1:5", "0:1 1:2 1:3"} {
			for _, loc := range []int{-1, 0, 1, 2} {
				popIs(t, b, model, loc, b, "")
			}
		}
	}
}
