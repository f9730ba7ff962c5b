package step_test

import (
	"math"
	"slices"
	"testing"

	"spinnaker/api"
	"spinnaker/conf"
	"spinnaker/step"
)

// P10.1: Reads.

func TestReads(t *testing.T) {
	for _, c := range []struct {
		b    []api.Entry
		want []int // what a thread with that buffer reads from each location
	}{
		{nil, []int{1, 2, 3}},
		{entries(0, 0), []int{0, 2, 3}},
		{entries(1, 0), []int{1, 0, 3}},
		{entries(2, 2), []int{1, 2, 2}},
		{entries(0, 1), []int{1, 2, 3}},
		{entries(0, 2, 0, 3), []int{3, 2, 3}},
		{entries(0, 3, 0, 2, 0, 0), []int{0, 2, 3}},
		{entries(0, 3, 0, 2, 1, 1), []int{2, 1, 3}},
		{entries(0, 0, 1, 3, 1, 0, 2, 0), []int{0, 0, 0}},
		{entries(1, 1, 1, 3, 2, 0, 2, 1), []int{1, 3, 1}},
		{entries(1, 1, 0, 3, 1, 3), []int{3, 3, 3}}, // TSO: in any order
		{entries(2, 1, 0, 2, 2, 0, 0, 3), []int{3, 2, 0}},
	} {
		for thread := range 3 {
			b := make([][]api.Entry, 3)
			b[thread] = c.b
			for other := range 3 {
				for loc, want := range []int{1, 2, 3} {
					if other == thread {
						want = c.want[loc]
					}
					if got := step.Reads(middle(b[0], b[1], b[2]), other, loc); got != want {
						t.Errorf("%v: thread %d reads %d from %d", b, other, got, loc)
					}
				}
			}
		}
	}
}

func TestReadsFromNowhere(t *testing.T) {
	c := middle(entries(0, 3, 1, 3), entries(0, 3, 1, 3), entries(0, 3, 2, 3))
	outside := append([]int{-2, -1, 3, 4, 5, 6}, far...)
	for _, i := range outside {
		for j := range 3 {
			if step.Reads(c, i, j) != 0 || step.Reads(c, j, i) != 0 {
				t.Errorf("%d and %d: %d, %d", i, j, step.Reads(c, i, j), step.Reads(c, j, i))
			}
		}
		for _, j := range outside {
			if got := step.Reads(c, i, j); got != 0 {
				t.Errorf("thread %d, location %d: %d", i, j, got)
			}
		}
	}
}

// As many threads as there are, and as many locations, do not depend on one another.
func TestReadsCounts(t *testing.T) {
	for threads := range 5 {
		for locs := range 7 {
			c := api.Conf{Pc: make([]int, threads), Regs: make([][]int, threads), Mem: slices.Repeat([]int{1}, locs), Buf: make([][]api.Entry, threads)}
			for i := -1; i < 8; i++ {
				for j := -1; j < 8; j++ {
					want := 0
					if i >= 0 && i < threads && j >= 0 && j < locs {
						want = 1
					}
					if got := step.Reads(c, i, j); got != want {
						t.Errorf("%d threads, %d locations: thread %d reads %d from %d", threads, locs, i, got, j)
					}
				}
			}
		}
	}
}

// P10.2 and P10.3: stores.

func TestStoreToMem(t *testing.T) {
	for _, o := range []outcome{
		{"store x = 0;", "1, 3 1, 0 2 3"},
		{"store x = 1;", "1, 3 1, 1 2 3"},
		{"store y = a;", "1, 3 1, 1 3 3"},
		{"store z = a + b; fence;", "1, 3 1, 1 2 0"},
		{"store z = 3 + 3;", "1, 3 1, 1 2 2"},
	} {
		for room := 1; room <= api.MaxRoom; room++ {
			o.check(t, middle(nil, nil, nil), api.SC, room)
		}
	}
}

// Of the value 0, to the location 1: what the buffer becomes, if there is this much room at least.
func TestStoreToBuffer(t *testing.T) {
	u := threaded(t, "store y = a + 1;")
	for _, c := range []struct {
		model, least int
		b, want      []api.Entry
	}{
		{api.TSO, 1, nil, entries(1, 0)},
		{api.TSO, 2, entries(0, 1), entries(0, 1, 1, 0)},
		{api.TSO, 2, entries(1, 1), entries(1, 1, 1, 0)},
		{api.TSO, 2, entries(2, 1), entries(2, 1, 1, 0)},
		{api.TSO, 3, entries(2, 1, 0, 1), entries(2, 1, 0, 1, 1, 0)},
		{api.TSO, 4, entries(1, 1, 1, 2, 1, 3), entries(1, 1, 1, 2, 1, 3, 1, 0)},
		{api.TSO, 4, entries(2, 1, 1, 2, 0, 3), entries(2, 1, 1, 2, 0, 3, 1, 0)},
		{api.TSO, 5, entries(0, 1, 0, 2, 2, 3, 0, 2), nil},
		{api.PSO, 1, nil, entries(1, 0)},
		{api.PSO, 1, entries(0, 1), entries(0, 1, 1, 0)},
		{api.PSO, 1, entries(2, 1), entries(1, 0, 2, 1)},
		{api.PSO, 1, entries(0, 2, 2, 1), entries(0, 2, 1, 0, 2, 1)},
		{api.PSO, 2, entries(1, 1), entries(1, 1, 1, 0)},
		{api.PSO, 2, entries(0, 3, 1, 1, 2, 2), entries(0, 3, 1, 1, 1, 0, 2, 2)},
		{api.PSO, 3, entries(0, 3, 1, 1, 1, 3, 2, 2), entries(0, 3, 1, 1, 1, 3, 1, 0, 2, 2)},
		{api.PSO, 4, entries(1, 1, 1, 3, 1, 2), entries(1, 1, 1, 3, 1, 2, 1, 0)},
		{api.PSO, 4, entries(1, 1, 1, 3, 1, 2, 2, 1, 2, 1, 2, 1, 2, 1), entries(1, 1, 1, 3, 1, 2, 1, 0, 2, 1, 2, 1, 2, 1, 2, 1)},
		{api.PSO, 5, entries(1, 1, 1, 2, 1, 3, 1, 0), nil},
	} {
		rooms := 0
		for room := 1; room <= api.MaxRoom; room++ {
			// Other threads have full buffers.
			for _, b := range [][]api.Entry{nil, slices.Repeat(entries(1, 3), room)} {
				before := middle(b, c.b, b)
				if !conf.Right(u, before, c.model, room) {
					continue
				}
				rooms++
				if room < c.least {
					waits(t, u, before, c.model, room, 1)
					continue
				}
				goes(t, u, before, c.model, room, 1, changed(before, func(d *api.Conf) { d.Pc[1], d.Buf[1] = 1, c.want }), true)
			}
		}
		if rooms == 0 {
			t.Errorf("model %d: %v is never valid", c.model, c.b)
		}
	}
}

// Without room only stores wait; under PSO those to other locations do not.
func TestStoreToFullBuffer(t *testing.T) {
	for room := 1; room <= api.MaxRoom; room++ {
		full := slices.Repeat(entries(1, 3), room)
		c := middle(nil, full, nil)
		for _, model := range buffered {
			waits(t, threaded(t, "store y = 0;"), c, model, room, 1)
			goes(t, threaded(t, "load b = y;"), c, model, room, 1, changed(c, func(d *api.Conf) { d.Pc[1], d.Regs[1][1] = 1, 3 }), true)
			goes(t, threaded(t, "await y == 3;"), c, model, room, 1, changed(c, func(d *api.Conf) { d.Pc[1] = 1 }), true)
		}
		waits(t, threaded(t, "store x = 2;"), c, api.TSO, room, 1)
		waits(t, threaded(t, "store z = 2;"), c, api.TSO, room, 1)
		goes(t, threaded(t, "store x = 2;"), c, api.PSO, room, 1, changed(c, func(d *api.Conf) {
			d.Pc[1], d.Buf[1] = 1, slices.Concat(entries(0, 2), full)
		}), true)
		goes(t, threaded(t, "store z = 2;"), c, api.PSO, room, 1, changed(c, func(d *api.Conf) {
			d.Pc[1], d.Buf[1] = 1, slices.Concat(full, entries(2, 2))
		}), true)
	}
}

// P10.4: Flushes and Flush.

// flushes fails the test unless there is a store to flush exactly if ok holds, and flushing leads
// from c to want.
func flushes(t *testing.T, c api.Conf, model, thread, loc int, want api.Conf, ok bool) {
	t.Helper()
	if got := step.Flushes(c, model, thread, loc); got != ok {
		t.Errorf("model %d, thread %d, location %d at %v: flushes: %v", model, thread, loc, c, got)
	}
	d, got := step.Flush(c, model, thread, loc)
	if got != ok || written(d) != written(want) {
		t.Errorf("model %d, thread %d, location %d at %v\n got %v, %v\nwant %v, %v", model, thread, loc, c, d, got, want, ok)
	}
}

func TestFlush(t *testing.T) {
	type flushed struct {
		locs []int // given one of these
		b    []api.Entry
		mem  []int
	}
	for _, c := range []struct {
		model int
		b     []api.Entry
		ways  []flushed
	}{
		{api.TSO, nil, nil},
		{api.TSO, entries(0, 3), []flushed{{[]int{-1, 0}, nil, []int{3, 2, 3}}}},
		{api.TSO, entries(1, 2), []flushed{{[]int{-1, 1}, nil, []int{1, 2, 3}}}},
		{api.TSO, entries(2, 0, 0, 3), []flushed{{[]int{-1, 2}, entries(0, 3), []int{1, 2, 0}}}},
		{api.TSO, entries(0, 2, 0, 3), []flushed{{[]int{-1, 0}, entries(0, 3), []int{2, 2, 3}}}},
		{api.TSO, entries(1, 0, 0, 2, 1, 3), []flushed{{[]int{-1, 1}, entries(0, 2, 1, 3), []int{1, 0, 3}}}},
		{api.TSO, entries(2, 1, 2, 1, 2, 1, 2, 1), []flushed{{[]int{-1, -2, math.MinInt, 2}, entries(2, 1, 2, 1, 2, 1), []int{1, 2, 1}}}},
		{api.PSO, nil, nil},
		{api.PSO, entries(0, 3), []flushed{{[]int{0}, nil, []int{3, 2, 3}}}},
		{api.PSO, entries(1, 2), []flushed{{[]int{1}, nil, []int{1, 2, 3}}}},
		{api.PSO, entries(0, 2, 0, 3), []flushed{{[]int{0}, entries(0, 3), []int{2, 2, 3}}}},
		{api.PSO, entries(0, 0, 2, 1), []flushed{{[]int{0}, entries(2, 1), []int{0, 2, 3}}, {[]int{2}, entries(0, 0), []int{1, 2, 1}}}},
		{api.PSO, entries(0, 0, 1, 1, 1, 0, 2, 2), []flushed{
			{[]int{0}, entries(1, 1, 1, 0, 2, 2), []int{0, 2, 3}},
			{[]int{1}, entries(0, 0, 1, 0, 2, 2), []int{1, 1, 3}},
			{[]int{2}, entries(0, 0, 1, 1, 1, 0), []int{1, 2, 2}},
		}},
	} {
		for _, other := range [][]api.Entry{nil, entries(0, 2, 1, 1), entries(2, 2, 2, 0)} {
			before := middle(other, c.b, other)
			valid(t, threaded(t, "fence;"), before, c.model, 4)
			none := []int{-2, -1, 0, 1, 2, 3, 4, 1000, math.MinInt, math.MaxInt}
			if c.model == api.TSO && len(c.b) > 0 { // all that are negative are like -1
				none = slices.DeleteFunc(none, func(loc int) bool { return loc < 0 })
			}
			for _, w := range c.ways {
				for _, loc := range w.locs {
					flushes(t, before, c.model, 1, loc, changed(before, func(d *api.Conf) { d.Buf[1], d.Mem = w.b, w.mem }), true)
				}
				none = slices.DeleteFunc(none, func(loc int) bool { return slices.Contains(w.locs, loc) })
			}
			for _, loc := range none {
				flushes(t, before, c.model, 1, loc, before, false)
			}
		}
	}
}

func TestFlushOfEach(t *testing.T) {
	for _, model := range buffered {
		c := middle(entries(0, 3), entries(0, 2), entries(1, 0))
		flushes(t, c, model, 0, 0, changed(c, func(d *api.Conf) { d.Buf[0], d.Mem[0] = nil, 3 }), true)
		flushes(t, c, model, 1, 0, changed(c, func(d *api.Conf) { d.Buf[1], d.Mem[0] = nil, 2 }), true)
		flushes(t, c, model, 2, 1, changed(c, func(d *api.Conf) { d.Buf[2], d.Mem[1] = nil, 0 }), true)
		for _, none := range [][2]int{{0, 1}, {0, 2}, {1, 1}, {2, 0}, {2, 2}} {
			flushes(t, c, model, none[0], none[1], c, false)
		}
		for _, thread := range append([]int{-2, -1, 3, 4, 5}, far...) {
			for loc := -1; loc < 5; loc++ {
				flushes(t, c, model, thread, loc, c, false)
			}
		}
	}
}

// Under SC nothing waits.
func TestFlushSC(t *testing.T) {
	c := middle(nil, nil, nil)
	for _, thread := range append([]int{-1, 0, 1, 2, 3, 4}, far...) {
		for _, loc := range append([]int{-1, 0, 1, 2, 3, 4}, far...) {
			flushes(t, c, api.SC, thread, loc, c, false)
		}
	}
}
