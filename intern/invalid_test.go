package intern_test

import (
	"math"
	"strconv"
	"testing"

	"spinnaker/intern"
)

// The methods of a nil *Table, and of one that New did not return.

// nothing asks for everything of what is no table, and puts texts into it.
func nothing(t *testing.T, name string, x *intern.Table) {
	t.Helper()
	for range 2 { // the second time after texts were put
		if n, slots, all := x.Len(), x.Slots(), x.All(); n != 0 || slots != 0 || len(all) != 0 {
			t.Errorf("%s: Len %d, Slots %d, All %q", name, n, slots, all)
		}
		for _, i := range []int{math.MinInt, -1, 0, 1, 2, 16, math.MaxInt} {
			if s, ok := x.At(i); s != "" || ok {
				t.Errorf("%s: At(%d): %q, %t", name, i, s, ok)
			}
		}
		for _, s := range []string{"", "a", "b", "0", "\x00", "\xff"} {
			if n, ok := x.Get(s); n != 0 || ok {
				t.Errorf("%s: Get(%q): %d, %t", name, s, n, ok)
			}
			for range 2 {
				if n, fresh := x.Put(s); n != 0 || fresh {
					t.Errorf("%s: Put(%q): %d, %t", name, s, n, fresh)
				}
			}
		}
		for i := range 100 {
			if n, fresh := x.Put(strconv.Itoa(i)); n != 0 || fresh {
				t.Errorf("%s: Put(%d): %d, %t", name, i, n, fresh)
			}
		}
	}
}

func TestNil(t *testing.T) {
	nothing(t, "nil", nil)
	var x *intern.Table
	nothing(t, "a variable", x)
}

func TestNotNew(t *testing.T) {
	var x intern.Table
	nothing(t, "a variable", &x)
	nothing(t, "a literal", &intern.Table{})
	nothing(t, "new", new(intern.Table))
	tables := make([]intern.Table, 3)
	for i := range tables {
		nothing(t, "an element", &tables[i])
	}
	var holder struct {
		before int
		x      intern.Table
	}
	nothing(t, "a field", &holder.x)
}

// A copy of a table was not returned by New, and what is done to it is not done to the table.
func TestCopy(t *testing.T) {
	for _, count := range []int{0, 1, 2, 8, 9, 100} {
		x := intern.New()
		var texts []string
		for i := range count {
			s := "text " + strconv.Itoa(i)
			puts(t, x, s, i, true)
			texts = append(texts, s)
		}
		y := *x
		nothing(t, "a copy of "+strconv.Itoa(count), &y)
		misses(t, x, "a")
		has(t, x, texts)
		puts(t, x, "a", count, true)
		nothing(t, "an old copy of "+strconv.Itoa(count), &y)
		has(t, x, append(texts, "a"))
	}
}

// What is no table takes nothing from the tables beside it.
func TestBesideOthers(t *testing.T) {
	x := intern.New()
	puts(t, x, "a", 0, true)
	nothing(t, "nil", nil)
	nothing(t, "a literal", &intern.Table{})
	has(t, x, []string{"a"})
	puts(t, x, "b", 1, true)
	has(t, x, []string{"a", "b"})
	has(t, intern.New(), nil)
}
