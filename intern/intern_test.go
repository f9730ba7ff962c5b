package intern_test

import (
	"math"
	"slices"
	"strconv"
	"strings"
	"testing"

	"spinnaker/intern"
)

// P13.1, P13.2 and P13.4: what is put, and what is found of it.

// puts puts a text that has to get this number.
func puts(t *testing.T, x *intern.Table, s string, n int, fresh bool) {
	t.Helper()
	if i, ok := x.Put(s); i != n || ok != fresh {
		t.Fatalf("Put(%s): %d, %t, not %d, %t", short(s), i, ok, n, fresh)
	}
}

// misses asks for a text that the table does not have.
func misses(t *testing.T, x *intern.Table, s string) {
	t.Helper()
	if i, ok := x.Get(s); i != 0 || ok {
		t.Fatalf("Get(%s): %d, %t, but it was never put", short(s), i, ok)
	}
}

// short is a text that can be told.
func short(s string) string {
	if len(s) > 40 {
		return strconv.Quote(s[:30]) + ".." + strconv.Quote(s[len(s)-5:]) + " of " + strconv.Itoa(len(s)) + " bytes"
	}
	return strconv.Quote(s)
}

// slotsFor is how many slots there are for so many texts.
func slotsFor(n int) int {
	slots := 16
	for 2*n > slots {
		slots *= 2
	}
	return slots
}

// has asks a table for everything: it has to have these texts, in this order, and no others.
func has(t *testing.T, x *intern.Table, texts []string) {
	t.Helper()
	if n, slots := x.Len(), x.Slots(); n != len(texts) || slots != slotsFor(len(texts)) {
		t.Fatalf("%d texts, %d slots, not %d, %d", n, slots, len(texts), slotsFor(len(texts)))
	}
	if all := x.All(); !slices.Equal(all, texts) {
		t.Fatalf("All returns %d texts that are not the %d that were put", len(all), len(texts))
	}
	for n, s := range texts {
		if i, ok := x.Get(s); i != n || !ok {
			t.Fatalf("Get(%s): %d, %t, not %d", short(s), i, ok, n)
		}
		if at, ok := x.At(n); at != s || !ok {
			t.Fatalf("At(%d): %s, %t, not %s", n, short(at), ok, short(s))
		}
	}
	for _, i := range []int{math.MinInt, -len(texts), -2, -1, len(texts), len(texts) + 1, slotsFor(len(texts)), math.MaxInt} {
		if i == 0 { // -len(texts) of none
			continue
		}
		if s, ok := x.At(i); s != "" || ok {
			t.Fatalf("At(%d) of %d texts: %s, %t", i, len(texts), short(s), ok)
		}
	}
}

// kinds are texts of all kinds, each once.
func kinds() []string {
	l := []string{"", "x", "X", "a b", "loc x = 0;", "\u00e9", "e\u0301", "\xff\xfe", "\xc3", "\xc3\x28", "\xed\xa0\x80", "\xf0\x9f\x98", "\ufffd", "a\x00b", "a\x00c", "\n", "\r\n"}
	for b := range 256 { // all bytes, alone, behind others and ahead of others
		one := string([]byte{byte(b)})
		l = append(l, one, "seven b"+one, "eight by"+one, one+"eight by", strings.Repeat("long", 500)+one)
	}
	for n := range 70 { // these differ only in their length
		l = append(l, strings.Repeat("\x00", n), strings.Repeat("a", n), strings.Repeat("\xff", n), "ab"+strings.Repeat("\x00", n))
	}
	long := strings.Repeat("all work and no play ", 50000)
	l = append(l, long, long+"!", long+"?", long[1:], long[:len(long)-1], "!"+long)
	seen := map[string]bool{}
	return slices.DeleteFunc(l, func(s string) bool {
		twice := seen[s]
		seen[s] = true
		return twice
	})
}

func TestExample(t *testing.T) {
	x := intern.New()
	puts(t, x, "a", 0, true)
	puts(t, x, "b", 1, true)
	puts(t, x, "a", 0, false)
	misses(t, x, "c")
	has(t, x, []string{"a", "b"})
}

func TestNone(t *testing.T) {
	x := intern.New()
	has(t, x, nil)
	for _, s := range kinds() {
		misses(t, x, s)
	}
	if s, ok := x.At(0); s != "" || ok {
		t.Errorf("At(0): %q, %t", s, ok)
	}
	has(t, x, nil)
}

// Each text alone: no other one is found beside it.
func TestOne(t *testing.T) {
	for _, s := range kinds() {
		x := intern.New()
		misses(t, x, s)
		puts(t, x, s, 0, true)
		has(t, x, []string{s})
		puts(t, x, s, 0, false)
		has(t, x, []string{s})
		others := []string{s + "\x00", s + "a", "\x00" + s, s + s + "x"}
		if s != "" {
			others = append(others, "", s[1:], s[:len(s)-1], s[:len(s)-1]+string([]byte{s[len(s)-1] ^ 1}), string([]byte{s[0] ^ 128})+s[1:])
		}
		for _, o := range others {
			if o != s {
				misses(t, x, o)
			}
		}
		has(t, x, []string{s})
	}
}

// The empty text is one like any other, wherever it comes.
func TestEmpty(t *testing.T) {
	for at := range 12 {
		x := intern.New()
		var texts []string
		for i := range 12 {
			s := strconv.Itoa(i)
			if i == at {
				misses(t, x, "")
				s = ""
			}
			puts(t, x, s, i, true)
			texts = append(texts, s)
		}
		puts(t, x, "", at, false)
		has(t, x, texts)
	}
}

// All kinds in one table, put once and again.
func TestKinds(t *testing.T) {
	l := kinds()
	for _, texts := range [][]string{l, backwards(l)} {
		x := intern.New()
		for n, s := range texts {
			misses(t, x, s)
			puts(t, x, s, n, true)
			puts(t, x, s, n, false)
		}
		has(t, x, texts)
		for n, s := range slices.Backward(texts) {
			puts(t, x, s, n, false)
		}
		has(t, x, texts)
	}
}

func backwards(l []string) []string {
	l = slices.Clone(l)
	slices.Reverse(l)
	return l
}

// A text is what its bytes are, wherever they lie.
func TestOtherBytes(t *testing.T) {
	x := intern.New()
	b := []byte("some text, in one place")
	puts(t, x, string(b), 0, true)
	for i := range b {
		b[i]++
	}
	puts(t, x, string(b), 1, true)
	puts(t, x, strings.Clone("some text, in one place"), 0, false)
	long := strings.Repeat("some text, in one place", 3)
	puts(t, x, long[23:46], 0, false)
	puts(t, x, long[22:45], 2, true)
	has(t, x, []string{"some text, in one place", string(b), "esome text, in one plac"})
}

// Asking adds nothing: the next text gets the next number all the same.
func TestGetAddsNothing(t *testing.T) {
	x := intern.New()
	for n := range 40 {
		for i := n; i < 200; i++ {
			misses(t, x, strconv.Itoa(i))
		}
		puts(t, x, strconv.Itoa(n), n, true)
	}
}

// All short texts: the numbers are 0 to Len - 1, each used once, and they stay.
func TestShortTexts(t *testing.T) {
	x := intern.New()
	texts := []string{""}
	for a := range 256 {
		texts = append(texts, string([]byte{byte(a)}))
		for b := range 256 {
			texts = append(texts, string([]byte{byte(a), byte(b)}))
		}
	}
	var numbers []int
	for _, s := range texts {
		n, fresh := x.Put(s)
		if !fresh {
			t.Fatalf("%q is not new", s)
		}
		numbers = append(numbers, n)
	}
	used := make([]int, len(texts))
	for i, s := range texts {
		n, ok := x.Get(s)
		if n != numbers[i] || !ok {
			t.Fatalf("%q had the number %d, and has %d, %t", s, numbers[i], n, ok)
		}
		used[n]++
	}
	if i := slices.IndexFunc(used, func(n int) bool { return n != 1 }); i >= 0 {
		t.Errorf("%d is used %d times", i, used[i])
	}
	has(t, x, texts)
	for _, s := range texts[1:] {
		misses(t, x, s+"\x00\x00")
	}
}
