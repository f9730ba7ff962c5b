package intern_test

import (
	"slices"
	"strconv"
	"testing"

	"spinnaker/intern"
)

// R4: what All returns is new memory; and each table has its own.

// some is a table with so many texts, and these.
func some(t *testing.T, count int) (*intern.Table, []string) {
	t.Helper()
	x := intern.New()
	var texts []string
	for i := range count {
		s := "text " + strconv.Itoa(i)
		puts(t, x, s, i, true)
		texts = append(texts, s)
	}
	return x, texts
}

var counts = []int{0, 1, 2, 3, 5, 7, 8, 9, 15, 16, 17, 33, 100, 1000}

// spoil overwrites a list and what is behind it.
func spoil(l []string) {
	l = l[:cap(l)]
	for i := range l {
		l[i] = "spoilt"
	}
	_ = append(l, "spoilt", "spoilt")
}

// Writing to what All returned changes nothing in the table, nor in what it returns elsewhere.
func TestAllIsNew(t *testing.T) {
	for _, count := range counts {
		x, texts := some(t, count)
		first, second := x.All(), x.All()
		_ = append(first, "more")
		has(t, x, texts)
		spoil(first)
		has(t, x, texts)
		if !slices.Equal(second, texts) {
			t.Errorf("%d texts: another answer has become %q", count, second)
		}
		puts(t, x, "spoilt", count, true)
		has(t, x, append(texts, "spoilt"))
	}
}

// What All returned stays as it was, whatever is added, and appending to it does not reach what is added.
func TestAllStays(t *testing.T) {
	for _, count := range counts {
		x, texts := some(t, count)
		before := x.All()
		for i := range 20 {
			s := "later " + strconv.Itoa(i)
			puts(t, x, s, count+i, true)
			texts = append(texts, s)
			spoil(append(before, "more")[count:])
			has(t, x, texts)
		}
		if !slices.Equal(before, texts[:count]) {
			t.Errorf("%d texts have become %q", count, before)
		}
		spoil(before)
		has(t, x, texts)
	}
}

// Two tables know nothing of each other.
func TestTwo(t *testing.T) {
	x, y := intern.New(), intern.New()
	var texts, others []string
	for i := range 100 {
		s := strconv.Itoa(i)
		misses(t, x, s)
		puts(t, x, s, i, true)
		texts = append(texts, s)
		if i%3 == 0 {
			misses(t, y, s)
			puts(t, y, s, i/3, true)
			others = append(others, s)
		}
		has(t, x, texts)
		has(t, y, others)
	}
	spoil(x.All())
	has(t, y, others)
	z := intern.New()
	has(t, z, nil)
	puts(t, z, "99", 0, true)
	has(t, x, texts)
	has(t, y, others)
	misses(t, y, "98")
}
