package intern_test

import (
	"encoding/binary"
	"strconv"
	"testing"

	"spinnaker/intern"
)

// P13.3, and what the slots must not show: texts that want the same slot.

// The slots, just before and just behind each doubling.
func TestDoubling(t *testing.T) {
	x := intern.New()
	if n := x.Slots(); n != 16 {
		t.Fatalf("a new table has %d slots", n)
	}
	n := 0
	for _, c := range []struct{ texts, slots int }{
		{1, 16}, {7, 16}, {8, 16}, {9, 32}, {15, 32}, {16, 32}, {17, 64}, {32, 64}, {33, 128}, {64, 128}, {65, 256}, {128, 256},
		{129, 512}, {256, 512}, {257, 1024}, {1024, 2048}, {1025, 4096}, {32768, 65536}, {32769, 131072}, {100000, 262144},
	} {
		for ; n < c.texts; n++ {
			puts(t, x, strconv.Itoa(n), n, true)
		}
		if i := x.Slots(); i != c.slots || x.Len() != n {
			t.Errorf("%d texts have %d slots, not %d", x.Len(), i, c.slots)
		}
		// Only a text that is added doubles them.
		puts(t, x, "0", 0, false)
		puts(t, x, strconv.Itoa(n-1), n-1, false)
		misses(t, x, strconv.Itoa(n))
		x.At(n)
		x.All()
		if i := x.Slots(); i != c.slots || x.Len() != n {
			t.Errorf("%d texts have %d slots, not %d, when nothing was added", x.Len(), i, c.slots)
		}
	}
}

// The number of slots after each text, which is a power of 2 and leaves half of them empty.
func TestSlots(t *testing.T) {
	x := intern.New()
	want := 16
	for n := range 5000 {
		puts(t, x, "n"+strconv.Itoa(n), n, true)
		if 2*(n+1) > want {
			want *= 2
		}
		if i := x.Slots(); i != want || i&(i-1) != 0 || i < 2*x.Len() {
			t.Fatalf("%d texts have %d slots, not %d", n+1, i, want)
		}
	}
}

// All that was put stays, through each doubling.
func TestDoublingKeeps(t *testing.T) {
	x := intern.New()
	var texts []string
	for n := range 5000 {
		s := strconv.Itoa(n * n)
		puts(t, x, s, n, true)
		texts = append(texts, s)
		if n&(n+1) == 0 || n&(n-1) == 0 { // just before or just behind a doubling
			has(t, x, texts)
			misses(t, x, strconv.Itoa(n*n+1)+"?")
		}
	}
	has(t, x, texts)
}

// Whatever the hash is, some four of 49 texts want the same one of 16 slots: each four are tried.
func TestFourOf49(t *testing.T) {
	var l []string
	for i := range 49 {
		l = append(l, strconv.Itoa(i))
	}
	for a := range l {
		for b := range a {
			for c := range b {
				for d := range c {
					four := []string{l[a], l[b], l[c], l[d]}
					tries(t, four, l[(a+1)%len(l)])
				}
			}
		}
	}
}

// And some three of 33, in each order.
func TestThreeOf33(t *testing.T) {
	var l []string
	for i := range 33 {
		l = append(l, strconv.Itoa(i))
	}
	for a := range l {
		for b := range l {
			for c := range l {
				if a != b && b != c && c != a {
					tries(t, []string{l[a], l[b], l[c]}, "none")
				}
			}
		}
	}
}

// tries puts some texts, and asks for them and for another one, which is not there if it is none of them.
func tries(t *testing.T, texts []string, other string) {
	t.Helper()
	x := intern.New()
	there := false
	for n, s := range texts {
		misses(t, x, s)
		puts(t, x, s, n, true)
		there = there || s == other
	}
	for n, s := range texts {
		if i, ok := x.Get(s); i != n || !ok {
			t.Fatalf("Get(%q) of %q: %d, %t", s, texts, i, ok)
		}
	}
	if !there {
		misses(t, x, other)
	}
}

// Tables that are as full as they can be, with texts that want the last slots and go on at the first ones.
func TestFull(t *testing.T) {
	for i := range 20000 {
		var texts []string
		for n := range 8 {
			texts = append(texts, strconv.Itoa(8*i+n))
		}
		tries(t, texts, strconv.Itoa(8*i+8))
	}
}

// twins are texts that all have the same hash in this package, and so want the same slot, however many
// slots there are: the second block undoes what the first one did. (For another hash they are ordinary texts.)
func twins(count int) []string {
	mix := func(h uint64) uint64 {
		for range 2 {
			h *= 0x9e3779b97f4a7c15
			h ^= h >> 32
		}
		return h
	}
	var l []string
	for i := range uint64(count) {
		var b []byte
		b = binary.BigEndian.AppendUint64(b, i)
		b = binary.BigEndian.AppendUint64(b, 12345^mix(mix(16)^i))
		l = append(l, string(b))
	}
	return l
}

func TestTwins(t *testing.T) {
	l := twins(2000)
	x := intern.New()
	for n, s := range l[:1000] {
		puts(t, x, s, n, true)
		if n < 100 {
			has(t, x, l[:n+1])
		}
		misses(t, x, l[n+1])
	}
	has(t, x, l[:1000])
	for _, s := range l[1000:] {
		misses(t, x, s)
	}
	for n, s := range l[:1000] {
		puts(t, x, s, n, false)
	}
	has(t, x, l[:1000])
}
