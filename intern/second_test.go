package intern_test

import (
	"slices"
	"strconv"
	"strings"
	"testing"

	"spinnaker/intern"
)

// P13.1 to P13.4: against a table of another make, a list that is searched from its start.

type list struct{ texts []string }

func (l *list) put(s string) (int, bool) {
	if n, ok := l.get(s); ok {
		return n, false
	}
	l.texts = append(l.texts, s)
	return len(l.texts) - 1, true
}

func (l *list) get(s string) (int, bool) {
	if n := slices.Index(l.texts, s); n >= 0 {
		return n, true
	}
	return 0, false
}

// both puts or asks for a text in both tables.
func both(t *testing.T, x *intern.Table, l *list, put bool, s string) {
	t.Helper()
	n, ok := x.Get(s)
	want, has := l.get(s)
	if put {
		n, ok = x.Put(s)
		want, has = l.put(s)
	}
	if n != want || ok != has {
		t.Fatalf("%s, put %t, into %d texts: %d, %t, not %d, %t", short(s), put, len(l.texts), n, ok, want, has)
	}
}

// All ways to put or ask for some texts, one after the other.
func TestAllWays(t *testing.T) {
	texts := []string{"", "a", "a\x00", "b"}
	var walk func(ways []int, left int)
	walk = func(ways []int, left int) {
		x, l := intern.New(), &list{}
		for _, w := range ways {
			both(t, x, l, w%2 == 0, texts[w/2])
		}
		has(t, x, l.texts)
		if left > 0 {
			for w := range 2 * len(texts) {
				walk(append(slices.Clone(ways), w), left-1)
			}
		}
	}
	walk(nil, 5)
}

// Long ways of texts that come again and again, from few to many different ones.
func TestLongWays(t *testing.T) {
	for _, different := range []int{1, 2, 7, 8, 9, 10, 16, 17, 18, 100, 1000} {
		for seed := range uint64(5) {
			x, l := intern.New(), &list{}
			next := func() int {
				seed = seed*6364136223846793005 + 1442695040888963407
				return int(seed >> 33)
			}
			for i := range 4000 {
				both(t, x, l, next()%3 > 0, wayText(next()%different))
				if i%500 == 0 {
					has(t, x, l.texts)
				}
			}
			has(t, x, l.texts)
		}
	}
}

// wayText is text n of those that come on long ways: of different lengths, many with the same first bytes.
func wayText(n int) string {
	switch n % 4 {
	case 0:
		return strconv.Itoa(n / 4)
	case 1:
		return strings.Repeat("\x00", n/4)
	case 2:
		return "the same first bytes, but for the last ones: " + strconv.Itoa(n/4)
	}
	return string([]byte{byte(n / 1024), byte(n / 4), 0xff, 0})
}

// The same calls have the same results.
func TestAgain(t *testing.T) {
	x, y := intern.New(), intern.New()
	for i := range 20000 {
		s := wayText(i * i % 3001)
		n, fresh := x.Put(s)
		if m, again := y.Put(s); m != n || again != fresh || x.Slots() != y.Slots() || x.Len() != y.Len() {
			t.Fatalf("Put(%s): %d, %t, and %d, %t", short(s), n, fresh, m, again)
		}
	}
	has(t, x, y.All())
}
