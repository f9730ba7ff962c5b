package store_test

import (
	"slices"
	"testing"

	"spinnaker/api"
	"spinnaker/store"
)

// R4: what is handed in stays as it was, and results are new memory.

// spare is what stands behind the end of a padded buffer.
var spare = api.Entry{Loc: -77, N: -77}

// padded is a copy of a buffer with spare capacity.
func padded(b []api.Entry) []api.Entry {
	l := append(slices.Clone(b), spare, spare, spare)
	return l[:len(b)]
}

// kept tells whether a padded buffer and what is behind it are as they were.
func kept(l, b []api.Entry) bool {
	return slices.Equal(l[:len(b)+3], append(slices.Clone(b), spare, spare, spare))
}

// clean fails the test unless the padded buffer is as it was, and stays so when all memory of the
// result is overwritten, and the result stays when the buffer is overwritten.
func clean(t *testing.T, what string, l, b, result []api.Entry) {
	t.Helper()
	if !kept(l, b) {
		t.Errorf("%s changed %v to %v", what, b, l[:len(b)+3])
	}
	whole := result[:cap(result)]
	for i := range whole {
		whole[i] = api.Entry{Loc: 55, N: 55}
	}
	if !kept(l, b) {
		t.Errorf("%s shares the memory of %v", what, b)
	}
	clear(l[:cap(l)])
	for _, e := range whole {
		if e.Loc != 55 {
			t.Errorf("%s keeps the memory of %v", what, b)
		}
	}
}

// buffers are some to try, valid for PSO too.
var buffers = []string{"", "0:1", "1:1", "0:1 1:2", "1:1 1:2", "0:1 0:2 1:1 2:1 2:2", "0:3 1:3 1:2 1:1", "2:1 2:2 2:3 2:0"}

func TestKeeps(t *testing.T) {
	for _, text := range buffers {
		b := buffer(text)
		for _, model := range append(others, models...) {
			for loc := -1; loc <= 3; loc++ {
				l := padded(b)
				clean(t, "Push", l, b, store.Push(l, model, api.Entry{Loc: loc, N: 7}))
				l = padded(b)
				rest, _, _ := store.Pop(l, model, loc)
				clean(t, "Pop", l, b, rest)
				l = padded(b)
				store.Room(l, model, 3, loc)
				store.Last(l, loc)
				store.Heads(l, model)
				store.Right(l, model, 3, 4, 3)
				clean(t, "a question", l, b, nil)
			}
		}
	}
}

// results are what the functions make of one buffer.
func results(b []api.Entry, model int) [][]api.Entry {
	one, two := store.Push(b, model, api.Entry{Loc: 1, N: 1}), store.Push(b, model, api.Entry{Loc: 1, N: 2})
	three, _, _ := store.Pop(b, model, -1)
	four, _, _ := store.Pop(b, model, 1)
	return [][]api.Entry{one, two, three, four}
}

// Two results from one buffer share nothing.
func TestShares(t *testing.T) {
	for _, text := range buffers {
		for _, model := range append(others, models...) {
			for i := range 4 {
				for j := range 4 {
					all := results(padded(buffer(text)), model)
					was := slices.Clone(all[i])
					if i != j {
						clear(all[j][:cap(all[j])])
					}
					if !slices.Equal(all[i], was) {
						t.Fatalf("%q, model %d: results %d and %d share memory", text, model, i, j)
					}
				}
			}
			b := buffer(text)
			heads := store.Heads(b, model)
			was := slices.Clone(heads)
			clear(store.Heads(b, model))
			if !slices.Equal(heads, was) {
				t.Fatalf("%q, model %d: Heads %v, then %v", text, model, was, heads)
			}
		}
	}
}
