package pack_test

import (
	"strings"
	"testing"

	"spinnaker/api"
	"spinnaker/pack"
)

// P12.2: texts that are the encoding of nothing.

func TestDecodeOfOthers(t *testing.T) {
	u := example(t)
	// The groups are, for each thread, Pc, registers, number of entries, and entries; and the memory.
	for _, c := range []struct{ what, s string }{
		{"nothing", ""},
		{"a Pc behind the last instruction", "0004 03 00 00 0000 00 0001 02 00 01 03"},
		{"a Pc behind the only instruction", "0002 03 00 00 0001 00 0001 02 00 01 03"},
		{"a Pc of the greatest first byte", "ff00 03 00 00 0000 00 0001 02 00 01 03"},
		{"a Pc with the bytes exchanged", "0200 03 00 00 0000 00 0001 02 00 01 03"},
		{"a register that is the modulus", "0002 04 00 00 0000 00 0001 02 00 01 03"},
		{"a register that is greater", "0002 03 ff 00 0000 00 0001 02 00 01 03"},
		{"a register of the last thread", "0002 03 00 00 0000 00 0001 04 00 01 03"},
		{"a location's number that is the modulus", "0002 03 00 00 0000 00 0001 02 00 04 03"},
		{"the last location's number", "0002 03 00 00 0000 00 0001 02 00 01 80"},
		{"one entry, but no bytes of it", "0002 03 00 01 0000 00 0001 02 00 01 03"},
		{"one entry of the last thread, but no bytes of it", "0002 03 00 00 0000 00 0001 02 01 01 03"},
		{"two entries, but the bytes of one", "0002 03 00 02 0001 0000 00 0001 02 00 01 03"},
		{"255 entries, but no bytes of them", "0002 03 00 ff 0000 00 0001 02 00 01 03"},
		{"no entry, but the bytes of one", "0002 03 00 00 0001 0000 00 0001 02 00 01 03"},
		{"an entry whose location there is not", "0002 03 00 01 0201 0000 00 0001 02 00 01 03"},
		{"an entry of the greatest location", "0002 03 00 00 0000 01 ff01 0001 02 00 01 03"},
		{"an entry that is the modulus", "0002 03 00 01 0104 0000 00 0001 02 00 01 03"},
		{"an entry that is greater", "0002 03 00 00 0000 00 0001 02 01 00ff 01 03"},
		{"a byte too many, that is 0", "0002 03 00 00 0000 00 0001 02 00 01 03 00"},
		{"a byte too many, that is the last one again", "0002 03 00 00 0000 00 0001 02 00 01 03 03"},
		{"a byte too many ahead", "00 0002 03 00 00 0000 00 0001 02 00 01 03"},
		{"an encoding twice", "0002 03 00 00 0000 00 0001 02 00 01 03 0002 03 00 00 0000 00 0001 02 00 01 03"},
		{"the last location is missing", "0002 03 00 00 0000 00 0001 02 00 01"},
		{"both locations are missing", "0002 03 00 00 0000 00 0001 02 00"},
		{"the last thread is missing", "0002 03 00 00 0000 00 01 03"},
		{"a register is missing", "0002 03 00 0000 00 0001 02 00 01 03"},
		{"a thread too many", "0002 03 00 00 0000 00 0001 02 00 0000 00 01 03"},
	} {
		for _, model := range models {
			for _, room := range rooms {
				t.Run(c.what, func(t *testing.T) { noConf(t, u, bytes(t, c.s), model, room) })
			}
		}
	}
}

// Buffers that one model has and another has not.
func TestDecodeBuffers(t *testing.T) {
	u := example(t)
	for _, c := range []struct {
		b        []api.Entry
		s        string
		tso, pso int // the least room
	}{
		{nil, "00", 1, 1},
		{entries(1, 3), "01 0103", 1, 1},
		{entries(0, 1, 1, 2), "02 0001 0102", 2, 1},
		{entries(1, 2, 0, 1), "02 0102 0001", 2, never},
		{entries(0, 1, 0, 1), "02 0001 0001", 2, 2},
		{entries(0, 1, 1, 2, 0, 3), "03 0001 0102 0003", 3, never},
		{entries(0, 3, 0, 2, 0, 1, 0, 0), "04 0003 0002 0001 0000", 4, 4},
		{entries(0, 3, 0, 2, 0, 1, 1, 0), "04 0003 0002 0001 0100", 4, 3},
		{entries(0, 0, 0, 0, 0, 0, 0, 0, 0, 0), "05 0000 0000 0000 0000 0000", never, never},
		{entries(0, 0, 0, 0, 0, 0, 1, 0, 1, 0), "05 0000 0000 0000 0100 0100", never, 3},
		{entries(0, 0, 0, 0, 0, 0, 0, 0, 1, 0, 1, 0, 1, 0, 1, 0), "08 0000 0000 0000 0000 0100 0100 0100 0100", never, 4},
	} {
		for thread, around := range [][2]string{
			{"0002 03 00", "0000 00 0001 02 00 01 03"},
			{"0002 03 00 00 0000", "0001 02 00 01 03"},
			{"0002 03 00 00 0000 00 0001 02", "01 03"},
		} {
			s := bytes(t, around[0]+c.s+around[1])
			m := middle()
			m.Buf[thread] = c.b
			for _, room := range rooms {
				for model, least := range map[int]int{api.SC: 1, api.TSO: c.tso, api.PSO: c.pso} {
					if room < least || model == api.SC && len(c.b) > 0 {
						noConf(t, u, s, model, room)
						noText(t, u, m, model, room)
					} else {
						packs(t, u, m, model, room, s)
					}
				}
			}
		}
	}
}

// What is cut off an encoding, or added to it, leaves none.
func TestDecodeCut(t *testing.T) {
	u := example(t)
	for _, c := range []api.Conf{middle(), middle(entries(0, 0, 0, 0), entries(1, 0), entries(1, 1, 1, 1)), started(t, u)} {
		model := api.PSO
		s, e := pack.Encode(u, c, model, 2)
		if e != api.OK {
			t.Fatal(c, e)
		}
		packs(t, u, c, model, 2, s)
		for i := range s {
			noConf(t, u, s[:i], model, 2)
			noConf(t, u, s[i+1:], model, 2)
		}
		for n := range 256 {
			noConf(t, u, s+string([]byte{byte(n)}), model, 2)
		}
		noConf(t, u, s+strings.Repeat("\x00", 1<<20), model, 2)
		noConf(t, u, strings.Repeat("\x00", 1<<20)+s, model, 2)
		noConf(t, u, strings.Repeat(s, 2), model, 2)
	}
}

// An encoding of another unit is one of this unit only if it fits.
func TestDecodeOfOtherUnits(t *testing.T) {
	u := example(t)
	s := bytes(t, "0002 03 00 00 0000 00 0001 02 00 01 03")
	packs(t, u, middle(), api.SC, 1, s)
	for _, text := range []string{
		"mod 2; thread t { }",
		"mod 3; loc x = 0; loc y = 0; thread t { reg a, b; fence; fence; } thread u { } thread v { reg c; fence; }",               // the modulus
		"mod 4; loc x = 0; loc y = 0; thread t { reg a, b; fence; } thread u { } thread v { reg c; fence; }",                      // the instructions
		"mod 4; loc x = 0; loc y = 0; thread t { reg a; fence; fence; } thread u { } thread v { reg c; fence; }",                  // the registers
		"mod 4; loc x = 0; thread t { reg a, b; fence; fence; } thread u { } thread v { reg c; fence; }",                          // the locations
		"mod 4; loc x = 0; loc y = 0; thread t { reg a, b; fence; fence; } thread v { reg c; fence; }",                            // the threads
		"mod 4; loc x = 0; loc y = 0; thread t { reg a, b; fence; fence; } thread v { reg c; fence; } thread u { }",               // their order
		"mod 4; loc x = 0; loc y = 0; thread t { reg a, b; fence; fence; } thread u { } thread v { reg c; fence; } thread w { }",  // one thread more
		"mod 4; loc x = 0; loc y = 0; loc z = 0; thread t { reg a, b; fence; fence; } thread u { } thread v { reg c; fence; }",    // one location more
		"mod 4; loc x = 0; loc y = 0; thread t { reg a, b; fence; fence; } thread u { reg d; fence; } thread v { reg c; fence; }", // one register more
		"mod 4; loc x = 0; loc y = 0; thread t { reg a, b, c; fence; fence; } thread u { fence; } thread v { fence; fence; }",     // registers of another thread
	} {
		noConf(t, made(t, text), s, api.SC, 1)
	}
	other := made(t, "mod 16; loc p = 9; loc q = 8; thread t { reg a, b; loop { fence; load b = q; } } thread u { fence; } thread v { reg c; xchg c = p, 9; fence; }")
	packs(t, other, middle(), api.SC, 1, s)
}
