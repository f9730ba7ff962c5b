package trail_test

import (
	"fmt"
	"math/rand/v2"
	"slices"
	"strings"
	"testing"

	"spinnaker/api"
	"spinnaker/lower"
	"spinnaker/machine"
	"spinnaker/trail"
)

// P16.5: Text and Parse.

// plain is a unit of so many threads and locations.
func plain(threads, locs int) api.Unit {
	return api.Unit{
		Mod:  2,
		Init: make([]int, locs),
		Regs: make([]int, threads),
		Code: slices.Repeat([][]api.Instr{{{Op: api.Done}}}, threads),
	}
}

// isText fails the test unless a path has this text, and the text is parsed as that path.
func isText(t *testing.T, u api.Unit, model int, text string, path ...int) {
	t.Helper()
	if got := trail.Text(u, model, path); got != text {
		t.Errorf("model %d: the text of %v is %q, not %q", model, path, got, text)
	}
	if got, e := trail.Parse(u, model, text); e != api.OK || !slices.Equal(got, path) {
		t.Errorf("model %d: %q is parsed as %v, %d, not %v", model, text, got, e, path)
	}
}

// noPath fails the test unless a text is parsed as no path.
func noPath(t *testing.T, u api.Unit, model int, text string) {
	t.Helper()
	if got, e := trail.Parse(u, model, text); e != api.ErrForm || got != nil {
		t.Errorf("model %d: %q is parsed as %v, %d", model, text, got, e)
	}
}

func TestText(t *testing.T) {
	for _, model := range models {
		isText(t, plain(1, 0), model, "")
		isText(t, plain(1, 0), model, "t0", 0)
		isText(t, plain(4, 6), model, "t3 t1 t1 t0 t2", 3, 1, 1, 0, 2)
	}
	isText(t, plain(4, 6), api.TSO, "f0 f3 t0 f0 f1 f2", 4, 7, 0, 4, 5, 6)
	isText(t, plain(2, 2), api.TSO, "t0 f0 t1 f1", 0, 2, 1, 3)
	isText(t, plain(2, 2), api.PSO, "f1.1 f1.0 f0.1 f0.0 t1 t0", 5, 4, 3, 2, 1, 0)
	isText(t, plain(4, 6), api.PSO, "f3.5 t3 f0.0 f2.4 f3.0", 27, 3, 4, 20, 22)
}

// Each agent, alone and after each other one.
func TestTextOfAll(t *testing.T) {
	for threads := 1; threads <= api.MaxThreads; threads++ {
		for _, locs := range []int{0, 1, 2, api.MaxLocs} {
			u := plain(threads, locs)
			for _, model := range models {
				agents := machine.Agents(u, model)
				for a := range agents {
					name := machine.Name(u, model, a)
					isText(t, u, model, name, a)
					for b := range agents {
						isText(t, u, model, name+" "+machine.Name(u, model, b), a, b)
					}
				}
			}
		}
	}
}

// isMarked fails the test unless a path with agents that have no name has this text, which is no path's.
func isMarked(t *testing.T, u api.Unit, model int, text string, path ...int) {
	t.Helper()
	if got := trail.Text(u, model, path); got != text {
		t.Errorf("model %d: the text of %v is %q, not %q", model, path, got, text)
	}
	noPath(t, u, model, text)
}

func TestTextOfNoAgents(t *testing.T) {
	u := plain(2, 2)
	for i, model := range models {
		agents := []int{2, 4, 6}[i]
		for _, a := range append([]int{agents, agents + 1}, far...) {
			isMarked(t, u, model, "?", a)
			isMarked(t, u, model, "? t1", a, 1)
			isMarked(t, u, model, "t1 ?", 1, a)
			isMarked(t, u, model, "t0 ? ? t1", 0, a, a, 1)
		}
	}
}

// Under a model that is none, and for a unit that is not valid, no agent has a name.
func TestTextWithoutAgents(t *testing.T) {
	for _, model := range append([]int{0, 4}, far...) {
		isText(t, plain(2, 2), model, "")
		isMarked(t, plain(2, 2), model, "?", 0)
		isMarked(t, plain(2, 2), model, "? ? ?", 0, -1, 1)
		noPath(t, plain(2, 2), model, "t0")
	}
	for i, u := range wrongs() {
		if lower.Right(u) {
			t.Fatalf("unit %d is right", i)
		}
		for _, model := range append([]int{0, 4}, models...) {
			isText(t, u, model, "")
			isMarked(t, u, model, "? ?", 0, 1)
			noPath(t, u, model, "t0")
			noPath(t, u, model, "f0")
		}
	}
}

func TestParseRefuses(t *testing.T) {
	u := plain(2, 2)
	for _, model := range models {
		for _, text := range []string{
			" ", "  ", " t0", "t0 ", "t0  t1", "t0 t1 ", " t0 t1", "t0   t1", "t0\tt1", "t0\nt1", "t0 t1\n", "\tt0", "t0,t1", "t0t1", "t0.t1", "t0\x00",
			"?", "t0 ?", "? t0", "t", "0", "t2", "t-1", "t+0", "t00", "t01", "T0", "t0.0", "f", "f2", "f00", "F0", "f0.2", "f2.0", "f.0", "f0.", "f0.00",
			"x", "t0 x", "x t0", "t0 t1 t2", "t2 t1 t0", "t0 t1 t0 t", "t0 t1 t0 0", "tt0", "ft0", "\xff", "t0 \xff", "t\u0660", "t0\u00a0t1", "\u2003",
		} {
			noPath(t, u, model, text)
		}
	}
	noPath(t, u, api.SC, "f0")
	noPath(t, u, api.SC, "f0.0")
	noPath(t, u, api.TSO, "f0.0")
	noPath(t, u, api.TSO, "t0 f0.0")
	noPath(t, u, api.PSO, "f0")
	noPath(t, u, api.PSO, "t0 f0.1 f0")
	noPath(t, plain(2, 0), api.PSO, "f0.0")
}

// All short texts: exactly those that are names joined by blanks are parsed.
func TestParseShort(t *testing.T) {
	u := plain(2, 2)
	const letters = "tf01. ?"
	for i, model := range models {
		t.Run(fmt.Sprint(model), func(t *testing.T) {
			t.Parallel()
			names := []string{"t0 t1", "t0 t1 f0 f1", "t0 t1 f0.0 f0.1 f1.0 f1.1"}[i]
			known := map[string][]int{"": nil}
			numbersOf(3, 0, len(strings.Fields(names))-1, func(path []int) {
				var words []string
				for _, a := range path {
					words = append(words, strings.Fields(names)[a])
				}
				known[strings.Join(words, " ")] = path
			})
			numbersOf(6, 0, len(letters)-1, func(which []int) {
				text := ""
				for _, i := range which {
					text += string(letters[i])
				}
				if path, ok := known[text]; ok {
					isText(t, u, model, text, path...)
				} else {
					noPath(t, u, model, text)
				}
			})
		})
	}
}

// P16.6: Parse of the result of Text, for long paths; and one letter that makes it no path.
func TestParseOfText(t *testing.T) {
	for seed := range uint64(30) {
		r := rand.New(rand.NewPCG(seed, 16))
		u, model := plain(1+r.IntN(api.MaxThreads), r.IntN(api.MaxLocs+1)), models[r.IntN(3)]
		var path []int
		for range 1 + r.IntN(200) {
			path = append(path, r.IntN(machine.Agents(u, model)))
		}
		text := trail.Text(u, model, path)
		isText(t, u, model, text, path...)
		for range 20 {
			i := r.IntN(len(text) + 1)
			noPath(t, u, model, text[:i]+"x"+text[i:])
			noPath(t, u, model, text[:i]+"?"+text[i:])
		}
	}
}
