package pack_test

import (
	"encoding/hex"
	"fmt"
	"math"
	"slices"
	"strings"
	"testing"

	"spinnaker/api"
	"spinnaker/conf"
	"spinnaker/lower"
	"spinnaker/pack"
	"spinnaker/prog"
)

var (
	models = []int{api.SC, api.TSO, api.PSO}
	others = []int{0, 4, 5, -1, -api.TSO, math.MinInt, math.MaxInt} // models that there are not
	rooms  = []int{1, 2, 3, 4}
	none   = []int{0, 5, -1, 256 + 1, math.MinInt, math.MaxInt} // capacities that there are not
)

// made is the unit of a program.
func made(t *testing.T, text string) api.Unit {
	t.Helper()
	p, e, at := prog.Parse(text)
	if e != api.OK {
		t.Fatalf("Parse(%q): %d, %d", text, e, at)
	}
	u, e, at := lower.Make(p)
	if e != api.OK {
		t.Fatalf("Make(%q): %d, %d", text, e, at)
	}
	return u
}

// started is the start of a valid unit.
func started(t *testing.T, u api.Unit) api.Conf {
	t.Helper()
	c, e := conf.Start(u)
	if e != api.OK {
		t.Fatalf("Start(%v): %d", u, e)
	}
	return c
}

// changed is a copy with some change.
func changed(c api.Conf, change func(d *api.Conf)) api.Conf {
	d := conf.Copy(c)
	change(&d)
	return d
}

// entries are entries of the locations and numbers that follow one another.
func entries(l ...int) []api.Entry {
	var b []api.Entry
	for i := 0; i < len(l); i += 2 {
		b = append(b, api.Entry{Loc: l[i], N: l[i+1]})
	}
	return b
}

// bytes are those that are written in hexadecimal digits, in groups as one likes.
func bytes(t *testing.T, digits string) string {
	t.Helper()
	l, err := hex.DecodeString(strings.ReplaceAll(digits, " ", ""))
	if err != nil {
		t.Fatal(digits, err)
	}
	return string(l)
}

// packs fails the test unless the configuration is valid, its encoding is s, and s is decoded as
// this configuration.
func packs(t *testing.T, u api.Unit, c api.Conf, model, room int, s string) {
	t.Helper()
	if !conf.Right(u, c, model, room) {
		t.Fatalf("model %d, room %d: %v is not valid", model, room, c)
	}
	if got, e := pack.Encode(u, c, model, room); e != api.OK || got != s {
		t.Errorf("model %d, room %d: %v is encoded as %x, %d, not as %x", model, room, c, got, e, s)
	}
	if got := pack.Size(c); got != len(s) {
		t.Errorf("model %d, room %d: %v has the size %d, not %d", model, room, c, got, len(s))
	}
	if got, e := pack.Decode(u, s, model, room); e != api.OK || !conf.Same(got, c) {
		t.Errorf("model %d, room %d: %x is decoded as %v, %d, not as %v", model, room, s, got, e, c)
	}
}

// noText fails the test unless the configuration has no encoding.
func noText(t *testing.T, u api.Unit, c api.Conf, model, room int) {
	t.Helper()
	if got, e := pack.Encode(u, c, model, room); e != api.ErrForm || got != "" {
		t.Errorf("model %d, room %d: %v is encoded as %x, %d", model, room, c, got, e)
	}
}

// noConf fails the test unless the text encodes nothing.
func noConf(t *testing.T, u api.Unit, s string, model, room int) {
	t.Helper()
	if got, e := pack.Decode(u, s, model, room); e != api.ErrForm || !conf.Same(got, api.Conf{}) {
		t.Errorf("model %d, room %d: %.99x is decoded as %v, %d", model, room, s, got, e)
	}
}

// example is a unit of three threads, with 4, 1 and 2 instructions, and 2, 0 and 1 registers, and
// of two locations.
func example(t *testing.T) api.Unit {
	t.Helper()
	return made(t, `mod 4; loc x = 3; loc y = 0;
		thread t { reg a, b; fence; load a = x; store y = b; }
		thread u { }
		thread v { reg c; skip; fence; }`)
}

// middle is a configuration of the example, with these buffers.
func middle(bufs ...[]api.Entry) api.Conf {
	return api.Conf{Pc: []int{2, 0, 1}, Regs: [][]int{{3, 0}, nil, {2}}, Mem: []int{1, 3}, Buf: append(bufs, nil, nil, nil)[:3]}
}

// fences is a unit with one thread of so many instructions.
func fences(length int) api.Unit {
	l := slices.Repeat([]api.Instr{{Op: api.Fence}}, length)
	l[length-1].Op = api.Done
	return api.Unit{Mod: 2, Regs: []int{0}, Code: [][]api.Instr{l}}
}

// never is a room that there is not.
const never = api.MaxRoom + 1

// P12.1 to P12.3: encodings, with the least room under each model.

func TestPack(t *testing.T) {
	two := made(t, "mod 16; loc x = 0; thread t { reg a, b, c; loop { load b = x; } } thread u { store x = 1; }")
	most := made(t, "mod 16; loc o = 1; loc p = 2; loc q = 3; loc r = 4; loc s = 5; loc t = 6; "+
		"thread a { reg a, b, c, d, e, f; } thread b { reg a, b, c, d, e, f; } thread c { reg a, b, c, d, e, f; } thread d { reg a, b, c, d, e, f; }")
	regs := []int{15, 14, 13, 12, 11, 10}
	full := entries(0, 1, 0, 2, 0, 3, 0, 4, 1, 5, 1, 6, 1, 7, 1, 8, 2, 9, 2, 10, 2, 11, 2, 12,
		3, 13, 3, 14, 3, 15, 3, 0, 4, 1, 4, 2, 4, 3, 4, 4, 5, 5, 5, 6, 5, 7, 5, 8)
	const fullText = "18 0001 0002 0003 0004 0105 0106 0107 0108 0209 020a 020b 020c 030d 030e 030f 0300 0401 0402 0403 0404 0505 0506 0507 0508"
	for _, c := range []struct {
		u            api.Unit
		c            api.Conf
		sc, tso, pso int // the least room
		want         string
	}{
		{made(t, "mod 2; thread t { }"), api.Conf{Pc: []int{0}, Regs: [][]int{nil}, Buf: [][]api.Entry{nil}}, 1, 1, 1, "0000 00"},
		{made(t, "mod 4; loc x = 1; thread t { reg a; }"), api.Conf{Pc: []int{0}, Regs: [][]int{{3}}, Mem: []int{1}, Buf: [][]api.Entry{nil}}, 1, 1, 1, "00 00 03 00 01"}, // example 1
		{made(t, "mod 4; loc x = 1; thread t { fence; }"), api.Conf{Pc: []int{1}, Regs: [][]int{nil}, Mem: []int{3}, Buf: [][]api.Entry{nil}}, 1, 1, 1, "0001 00 03"},
		{made(t, "mod 4; thread t { reg a, b; fence; }"), api.Conf{Pc: []int{1}, Regs: [][]int{{2, 1}}, Buf: [][]api.Entry{nil}}, 1, 1, 1, "0001 02 01 00"},
		{two, started(t, two), 1, 1, 1, "0000 00 00 00 00 0000 00 00"},
		{two, api.Conf{Pc: []int{1, 1}, Regs: [][]int{{15, 0, 7}, nil}, Mem: []int{9}, Buf: [][]api.Entry{nil, entries(0, 1)}}, never, 1, 1, "0001 0f 00 07 00 0001 01 0001 09"},
		{two, api.Conf{Pc: []int{2, 0}, Regs: [][]int{{1, 2, 3}, nil}, Mem: []int{0}, Buf: [][]api.Entry{entries(0, 4, 0, 5, 0, 6, 0, 7), entries(0, 8, 0, 9)}}, never, 4, 4,
			"0002 01 02 03 04 0004 0005 0006 0007 0000 02 0008 0009 00"},
		{example(t), middle(), 1, 1, 1, "0002 03 00 00 0000 00 0001 02 00 01 03"},
		{example(t), middle(entries(1, 2, 0, 1)), never, 2, never, "0002 03 00 02 0102 0001 0000 00 0001 02 00 01 03"},
		{example(t), middle(entries(0, 1, 1, 2)), never, 2, 1, "0002 03 00 02 0001 0102 0000 00 0001 02 00 01 03"},
		{example(t), middle(nil, entries(0, 3, 1, 0, 1, 0), entries(1, 1)), never, 3, 2, "0002 03 00 00 0000 03 0003 0100 0100 0001 02 01 0101 01 03"},
		{example(t), middle(entries(0, 0, 0, 1, 0, 2, 1, 3, 1, 2), nil, entries(1, 0)), never, never, 3, "0002 03 00 05 0000 0001 0002 0103 0102 0000 00 0001 02 01 0100 01 03"},
		{example(t), middle(entries(1, 3), entries(1, 0, 0, 1, 1, 2, 0, 3)), never, 4, never, "0002 03 00 01 0103 0000 04 0100 0001 0102 0003 0001 02 00 01 03"},
		{most, api.Conf{Pc: make([]int, 4), Regs: [][]int{regs, regs, regs, regs}, Mem: []int{15, 0, 14, 1, 13, 2}, Buf: [][]api.Entry{full, full[:4], nil, full}}, never, never, 4,
			"0000 0f 0e 0d 0c 0b 0a " + fullText + "0000 0f 0e 0d 0c 0b 0a 04 0001 0002 0003 0004 0000 0f 0e 0d 0c 0b 0a 00 0000 0f 0e 0d 0c 0b 0a " + fullText + "0f 00 0e 01 0d 02"},
	} {
		want := bytes(t, c.want)
		least := map[int]int{api.SC: c.sc, api.TSO: c.tso, api.PSO: c.pso}
		for _, model := range models {
			for _, room := range rooms {
				if room >= least[model] {
					packs(t, c.u, c.c, model, room, want)
				} else {
					noText(t, c.u, c.c, model, room)
					noConf(t, c.u, want, model, room)
				}
			}
		}
		for _, model := range slices.Concat(models, others) {
			for _, room := range slices.Concat(rooms, none) {
				if !slices.Contains(models, model) || !slices.Contains(rooms, room) {
					noText(t, c.u, c.c, model, room)
					noConf(t, c.u, want, model, room)
				}
			}
		}
	}
}

// Instructions whose numbers take both of the two bytes, and those behind the last one.
func TestPc(t *testing.T) {
	for _, length := range []int{1, 2, 255, 256, 257, 258, 511, 512, 513, 999, 1000} {
		u := fences(length)
		for pc := range 65536 {
			if pc >= length && pc%251 != 0 && pc != length && pc != 65535 {
				continue
			}
			c := api.Conf{Pc: []int{pc}, Regs: [][]int{nil}, Buf: [][]api.Entry{nil}}
			s := string([]byte{byte(pc / 256), byte(pc % 256), 0})
			if pc < length {
				packs(t, u, c, api.TSO, 1, s)
			} else {
				noText(t, u, c, api.TSO, 1)
				noConf(t, u, s, api.TSO, 1)
			}
		}
		for _, pc := range []int{-1, -65536, 65536, 65536 + length - 1, math.MinInt, math.MaxInt} {
			noText(t, u, api.Conf{Pc: []int{pc}, Regs: [][]int{nil}, Buf: [][]api.Entry{nil}}, api.TSO, 1)
		}
	}
}

// Pcs of several threads, and of those that have registers and entries beside them.
func TestPcs(t *testing.T) {
	u := fences(700)
	u.Mod, u.Init, u.Regs, u.Code = 5, []int{0, 0}, []int{1, 0, 2}, [][]api.Instr{u.Code[0], u.Code[0][699:], u.Code[0]}
	c := api.Conf{Pc: []int{258, 0, 515}, Regs: [][]int{{4}, nil, {3, 2}}, Mem: []int{2, 4}, Buf: [][]api.Entry{entries(1, 3), entries(0, 2), nil}}
	packs(t, u, c, api.PSO, 1, bytes(t, "0102 04 01 0103 0000 01 0002 0203 03 02 00 02 04"))
}

// P12.1: what is not valid has no encoding.

// strange are changes after which a configuration of the example is not valid.
func strange() map[string]func(c *api.Conf) {
	return map[string]func(c *api.Conf){
		"all zero":                func(c *api.Conf) { *c = api.Conf{} },
		"no Pc":                   func(c *api.Conf) { c.Pc = nil },
		"one Pc less":             func(c *api.Conf) { c.Pc = c.Pc[:2] },
		"one Pc more":             func(c *api.Conf) { c.Pc = append(c.Pc, 0) },
		"a Pc behind the last":    func(c *api.Conf) { c.Pc[0] = 4 },
		"a Pc that is negative":   func(c *api.Conf) { c.Pc[2] = -1 },
		"a Pc beyond two bytes":   func(c *api.Conf) { c.Pc[2] = 1 << 16 },
		"no registers":            func(c *api.Conf) { c.Regs = nil },
		"one register less":       func(c *api.Conf) { c.Regs[0] = []int{3} },
		"one register more":       func(c *api.Conf) { c.Regs[1] = []int{3} },
		"one list less":           func(c *api.Conf) { c.Regs = c.Regs[:2] },
		"one list more":           func(c *api.Conf) { c.Regs = append(c.Regs, nil) },
		"a register that is mod":  func(c *api.Conf) { c.Regs[0][1] = 4 },
		"a register that is less": func(c *api.Conf) { c.Regs[2][0] = -1 },
		"a register beyond bytes": func(c *api.Conf) { c.Regs[2][0] = 256 },
		"registers of another":    func(c *api.Conf) { c.Regs[0], c.Regs[2] = c.Regs[2], c.Regs[0] },
		"no memory":               func(c *api.Conf) { c.Mem = nil },
		"one location less":       func(c *api.Conf) { c.Mem = c.Mem[:1] },
		"one location more":       func(c *api.Conf) { c.Mem = append(c.Mem, 0) },
		"a location that is mod":  func(c *api.Conf) { c.Mem[1] = 4 },
		"a location that is less": func(c *api.Conf) { c.Mem[0] = -1 },
		"a location beyond bytes": func(c *api.Conf) { c.Mem[0] = 257 },
		"no buffers":              func(c *api.Conf) { c.Buf = nil },
		"one buffer less":         func(c *api.Conf) { c.Buf = c.Buf[:2] },
		"one buffer more":         func(c *api.Conf) { c.Buf = append(c.Buf, nil) },
		"no such location":        func(c *api.Conf) { c.Buf[1] = entries(2, 0) },
		"a negative location":     func(c *api.Conf) { c.Buf[1] = entries(-1, 0) },
		"a place beyond bytes":    func(c *api.Conf) { c.Buf[1] = entries(256, 0) },
		"an entry that is mod":    func(c *api.Conf) { c.Buf[2] = entries(1, 4) },
		"an entry that is less":   func(c *api.Conf) { c.Buf[2] = entries(0, -1) },
		"an entry beyond bytes":   func(c *api.Conf) { c.Buf[2] = entries(0, 256) },
		"too many entries":        func(c *api.Conf) { c.Buf[0] = entries(0, 0, 0, 0, 0, 0, 0, 0, 0, 0) },
		"256 entries":             func(c *api.Conf) { c.Buf[0] = make([]api.Entry, 256) },
	}
}

func TestEncodeOfOthers(t *testing.T) {
	u := example(t)
	for what, change := range strange() {
		for _, c := range []api.Conf{started(t, u), middle(), middle(entries(0, 1), nil, entries(1, 2))} {
			t.Run(what, func(t *testing.T) {
				for _, model := range models {
					for _, room := range rooms {
						noText(t, u, changed(c, change), model, room)
					}
				}
			})
		}
	}
}

// spoils are changes that make the example a unit that is not valid. After most of them its
// configurations still fit in all that they are made of.
func spoils() map[string]func(u *api.Unit) {
	return map[string]func(u *api.Unit){
		"all zero":           func(u *api.Unit) { *u = api.Unit{} },
		"Mod 0":              func(u *api.Unit) { u.Mod = 0 },
		"Mod 1":              func(u *api.Unit) { u.Mod = 1 },
		"Mod 17":             func(u *api.Unit) { u.Mod = 17 },
		"Init -1":            func(u *api.Unit) { u.Init[1] = -1 },
		"Init 4":             func(u *api.Unit) { u.Init[0] = 4 },
		"7 locations":        func(u *api.Unit) { u.Init = make([]int, 7) },
		"one Regs less":      func(u *api.Unit) { u.Regs = u.Regs[:2] },
		"one Regs more":      func(u *api.Unit) { u.Regs = append(u.Regs, 0) },
		"no Regs":            func(u *api.Unit) { u.Regs = nil },
		"-1 registers":       func(u *api.Unit) { u.Regs[1] = -1 },
		"7 registers":        func(u *api.Unit) { u.Regs[1] = 7 },
		"MinInt registers":   func(u *api.Unit) { u.Regs[2] = math.MinInt },
		"MaxInt registers":   func(u *api.Unit) { u.Regs[2] = math.MaxInt },
		"one sequence less":  func(u *api.Unit) { u.Code = u.Code[:2] },
		"one sequence more":  func(u *api.Unit) { u.Code = append(u.Code, u.Code[1]) },
		"no code":            func(u *api.Unit) { u.Code = nil },
		"no instructions":    func(u *api.Unit) { u.Code[1] = nil },
		"no Done":            func(u *api.Unit) { u.Code[1][0].Op = api.Fence },
		"Done twice":         func(u *api.Unit) { u.Code[2][0].Op = api.Done },
		"no such kind":       func(u *api.Unit) { u.Code[0][0].Op = api.If },
		"no such register":   func(u *api.Unit) { u.Code[0][1].Reg = 2 },
		"a target too many":  func(u *api.Unit) { u.Code[0][0].To = 1 },
		"1001 instructions":  func(u *api.Unit) { u.Code[2] = append(slices.Repeat(u.Code[2][:1], 1000), u.Code[2][1]) },
		"5 threads":          func(u *api.Unit) { u.Regs, u.Code = make([]int, 5), slices.Repeat(u.Code[1:2], 5) },
		"70000 threads":      func(u *api.Unit) { u.Regs, u.Code = make([]int, 70000), slices.Repeat(u.Code[1:2], 70000) },
		"70000 more of Regs": func(u *api.Unit) { u.Regs = make([]int, 70000) },
	}
}

func TestUnitsThatAreNotValid(t *testing.T) {
	for what, spoil := range spoils() {
		t.Run(what, func(t *testing.T) {
			u := example(t)
			c := middle()
			s := bytes(t, "0002 03 00 00 0000 00 0001 02 00 01 03")
			packs(t, u, c, api.TSO, 1, s)
			spoil(&u)
			for _, model := range models {
				noText(t, u, c, model, 1)
				noText(t, u, api.Conf{}, model, 1)
				for _, text := range []string{s, "", "\x00", s[1:], s[:4], strings.Repeat("\x00", 15), strings.Repeat("\x00", 300000), strings.Repeat("\xff", 99)} {
					noConf(t, u, text, model, 1)
				}
			}
		})
	}
}

// A unit without locations has a configuration without locations, but none without threads.
func TestWithoutThreads(t *testing.T) {
	for _, u := range []api.Unit{{}, {Mod: 2}, {Mod: 2, Init: []int{1}}, {Mod: 2, Regs: []int{0}}, {Mod: 2, Code: [][]api.Instr{{{Op: api.Done}}}}} {
		for _, model := range models {
			noText(t, u, api.Conf{}, model, 1)
			noText(t, u, api.Conf{Mem: u.Init}, model, 1)
			noConf(t, u, "", model, 1)
			noConf(t, u, "\x01", model, 1)
			noConf(t, u, "\x00\x00\x00", model, 1)
		}
	}
}

// P12.3: Size.

func TestSize(t *testing.T) {
	waiting := make([]api.Entry, 300)
	for _, c := range []struct {
		c    api.Conf
		want int
	}{
		{api.Conf{}, 0},
		{api.Conf{Pc: []int{}, Regs: [][]int{}, Mem: []int{}, Buf: [][]api.Entry{}}, 0},
		{api.Conf{Pc: []int{0}}, 3},
		{api.Conf{Pc: []int{999, -1, 70000, 0, 0}}, 15},
		{api.Conf{Mem: []int{0}}, 1},
		{api.Conf{Mem: []int{300, -1, math.MaxInt, math.MinInt, 0, 0, 0}}, 7},
		{api.Conf{Regs: [][]int{nil}}, 0},
		{api.Conf{Regs: [][]int{nil, {}, {5}}}, 1},
		{api.Conf{Regs: [][]int{{1, 2}, {3}, make([]int, 100)}}, 103},
		{api.Conf{Buf: [][]api.Entry{nil}}, 0},
		{api.Conf{Buf: [][]api.Entry{nil, {}, {{}}}}, 2},
		{api.Conf{Buf: [][]api.Entry{waiting[:5], nil, waiting[:2]}}, 14},
		{api.Conf{Buf: [][]api.Entry{waiting}}, 600},
		{api.Conf{Pc: []int{0}, Regs: [][]int{{3}}, Mem: []int{1}, Buf: [][]api.Entry{nil}}, 5}, // example 1
		{api.Conf{Pc: []int{0}, Regs: [][]int{{3}}, Mem: []int{1}, Buf: [][]api.Entry{waiting[:5]}}, 15},
		{api.Conf{Pc: []int{0, 1}, Regs: [][]int{{3}}, Mem: []int{1, 2, 3}, Buf: [][]api.Entry{nil, nil, waiting[:1]}}, 12},
		{api.Conf{Pc: make([]int, 1, 9), Regs: append(make([][]int, 0, 9), make([]int, 2, 9)), Mem: make([]int, 3, 9), Buf: append(make([][]api.Entry, 0, 9), waiting[:4:9])}, 16},
		{middle(), 14},
		{middle(entries(0, 1, 1, 2), nil, entries(9, 9)), 20},
	} {
		if got := pack.Size(c.c); got != c.want {
			t.Errorf("%v has the size %d, not %d", c.c, got, c.want)
		}
	}
	for what, change := range strange() {
		c := changed(middle(entries(0, 1)), change)
		want := 3*len(c.Pc) + len(slices.Concat(c.Regs...)) + 2*len(slices.Concat(c.Buf...)) + len(c.Mem)
		if got := pack.Size(c); got != want {
			t.Errorf("%s: %v has the size %d, not %d", what, c, got, want)
		}
	}
}

// A nil slice and an empty one are encoded alike.
func TestNilSlices(t *testing.T) {
	for text, want := range map[string]string{"mod 2; thread t { }": "0000 00", "mod 2; loc x = 1; thread t { }": "0000 00 01"} {
		u := made(t, text)
		for _, c := range []api.Conf{
			{Pc: []int{0}, Regs: [][]int{nil}, Mem: u.Init, Buf: [][]api.Entry{nil}},
			{Pc: []int{0}, Regs: [][]int{{}}, Mem: append([]int{}, u.Init...), Buf: [][]api.Entry{{}}},
			{Pc: []int{0}, Regs: [][]int{make([]int, 0, 5)}, Mem: append(make([]int, 0, 5), u.Init...), Buf: [][]api.Entry{make([]api.Entry, 0, 5)}},
		} {
			for _, model := range models {
				packs(t, u, c, model, 1, bytes(t, want))
			}
		}
	}
	if got := fmt.Sprint(pack.Size(api.Conf{}), pack.Size(api.Conf{Pc: []int{}})); got != "0 0" {
		t.Error(got)
	}
}
