package fair_test

import (
	"slices"
	"testing"

	"spinnaker/api"
	"spinnaker/explore"
	"spinnaker/fair"
	"spinnaker/lower"
	"spinnaker/machine"
	"spinnaker/prog"
)

// P18.2 to P18.5 in the spaces of programs, under all models.

// spaceOf is the space of a program, and its unit.
func spaceOf(t *testing.T, text string, model int) (api.Unit, api.Space) {
	t.Helper()
	p, e, _ := prog.Parse(text)
	if e != api.OK {
		t.Fatalf("%s: Parse: %d", text, e)
	}
	u, e, _ := lower.Make(p)
	if e != api.OK {
		t.Fatalf("%s: Make: %d", text, e)
	}
	s, e := explore.All(u, model, 1, api.MaxStates)
	if e != api.OK {
		t.Fatalf("%s: All: %d", text, e)
	}
	return u, s
}

const (
	spinning  = "thread t { reg a; while a == 0 { load a = x; } }"
	turning   = "thread u { loop { store x = 1; store x = 0; } }"
	answering = "thread u { reg b; while b == 0 { store x = 1; store x = 0; load b = y; } }"
)

func TestPrograms(t *testing.T) {
	const head = "mod 2; loc x = 0; loc y = 0; "
	for _, c := range []struct {
		text         string
		weak, strong bool
	}{
		{"thread t { }", false, false},
		{"thread t { loop { } }", true, true},
		{"thread t { await x == 1; }", false, false},
		{"thread t { await x == 1; } thread u { store x = 1; }", false, false},
		{"thread t { loop { } } thread u { store x = 1; }", true, true},
		{"thread t { loop { store x = 1; } } thread u { loop { fence; } }", true, true},
		// A thread that spins until another one has stored.
		{spinning, true, true},
		{spinning + "thread u { store x = 1; }", false, false},
		{spinning + "thread u { store x = 0; }", true, true},
		// On a location that is set and cleared forever, it can miss the value each time.
		{spinning + turning, true, true},
		// A thread that waits there is enabled again and again.
		{"thread t { await x == 1; store y = 1; }" + answering, true, false},
		{"thread t { await x == 1; store y = 1; }" + turning, true, true},
		{"thread t { await x == 1; await x == 0; store y = 1; }" + answering, true, false},
		{"thread t { reg a; while a == 0 { load a = x; } store y = 1; }" + answering, true, true},
	} {
		for model := api.SC; model <= api.PSO; model++ {
			u, s := spaceOf(t, head+c.text, model)
			en, agents := explore.Enabled(u, s, model, 1), machine.Agents(u, model)
			weak, strong := fair.Weak(s.G, en, agents), fair.Strong(s.G, en, agents)
			if (len(weak) > 0) != c.weak || (len(strong) > 0) != c.strong {
				t.Errorf("%s, model %d: Weak is %v, Strong is %v", c.text, model, weak, strong)
			}
			finds(t, s.G, en, agents, weak, strong)
		}
	}
}

// The spaces are compared with the parts of another make, as far as a set can have their nodes.
func TestSpaces(t *testing.T) {
	compared := 0
	for _, text := range []string{
		"mod 2; loc x = 0; " + spinning + turning,
		"mod 2; loc x = 0; loc y = 0; thread t { await x == 1; store y = 1; }" + answering,
		"mod 2; loc x = 0; thread t { loop { await x == 0; store x = 1; } } thread u { loop { await x == 1; store x = 0; } }",
		"mod 3; loc x = 0; thread t { reg a; loop { load a = x; await x == a; } } thread u { loop { store x = 1; store x = 2; } }",
	} {
		for model := api.SC; model <= api.PSO; model++ {
			u, s := spaceOf(t, text, model)
			if len(s.Confs) > 60 {
				continue
			}
			compared++
			p := plain{n: len(s.Confs), agents: machine.Agents(u, model), en: explore.Enabled(u, s, model, 1)}
			for i := range s.Confs {
				for k := s.G.Start[i]; k < s.G.Start[i+1]; k++ {
					p.l = append(p.l, api.Edge{From: i, Agent: s.G.Agent[k], To: s.G.To[k]})
				}
			}
			compares(t, p, slices.Concat(p.components(p.all()), []set{p.weak(), p.all()}))
		}
	}
	if compared < 4 {
		t.Errorf("%d spaces are compared", compared)
	}
}
