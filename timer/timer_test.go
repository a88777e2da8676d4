package timer_test

import (
	"math"
	"slices"
	"testing"

	"ferry/api"
	"ferry/timer"
)

func TestCheck(t *testing.T) {
	for _, c := range []struct {
		ts    []api.Timer
		procs int
		want  error
	}{
		{list(1, 5, 0, 5), 2, api.ErrState}, {list(0, 5, 1, 5), 1, api.ErrState}, {nil, 9, api.ErrArg}, {list(0, 5, 0, 6), 2, api.ErrState},
		{list(0, 5, 1, 5), 2, nil}, {list(1, 4, 0, 5), 2, nil}, {nil, 0, nil}, {[]api.Timer{}, 8, nil}, {list(0, 0), 0, api.ErrState}, {list(0, 0), 1, nil},
		{list(1, 5, 0, 5), -1, api.ErrArg}, {list(1, 5, 0, 5), 9, api.ErrArg}, {nil, math.MinInt, api.ErrArg}, {nil, math.MaxInt, api.ErrArg},
		{list(7, 1010000), 8, nil}, {list(7, 1010001), 8, api.ErrState}, {list(7, -1), 8, api.ErrState}, {list(8, 5), 8, api.ErrState}, {list(-1, 5), 8, api.ErrState},
		{list(0, 5, 0, 5), 8, api.ErrState}, {list(0, 5, 1, 6, 0, 7), 8, api.ErrState}, {list(0, 7, 1, 6), 8, api.ErrState},
		{list(math.MinInt, 5), 8, api.ErrState}, {list(math.MaxInt, 5), 8, api.ErrState}, {list(0, math.MinInt), 8, api.ErrState}, {list(0, math.MaxInt), 8, api.ErrState},
		{list(7, 0, 6, 1, 5, 2, 4, 3, 3, 4, 2, 5, 1, 6, 0, 7), 8, nil}, {list(0, 3, 1, 3, 2, 3, 3, 3, 4, 3, 5, 3, 6, 3, 7, 3), 8, nil},
	} {
		wantBare(t, "P8.1: Check", timer.Check(c.ts, c.procs), c.want)
	}
}

func TestFindNext(t *testing.T) {
	for _, c := range []struct {
		ts   []api.Timer
		proc int
		due  int
		is   bool
	}{
		{list(4, 2), 4, 2, true}, {list(4, 2), 3, 0, false}, {nil, 0, 0, false}, {list(4, 9, 4, 1), 4, 9, true}, {list(0, 3, 99, -7), 99, -7, true},
		{list(0, 3, -5, 8), -5, 8, true}, {list(0, 3), -1, 0, false}, {list(0, 3, 1, 0), 1, 0, true},
	} {
		if due, is := timer.Find(c.ts, c.proc); due != c.due || is != c.is {
			t.Errorf("P8.1: Find(%v, %d) = %d, %v", c.ts, c.proc, due, is)
		}
	}
	for _, c := range []struct {
		ts  []api.Timer
		due int
		is  bool
	}{
		{nil, 0, false}, {[]api.Timer{}, 0, false}, {list(4, 2), 2, true}, {list(1, 9, 0, 4), 4, true}, {list(1, 4, 0, 9), 4, true}, {list(1, 9, 0, 4, 2, 7), 4, true},
		{list(99, 8, 99, math.MinInt, 99, 3), math.MinInt, true}, {list(0, math.MaxInt), math.MaxInt, true}, {list(0, 0), 0, true},
	} {
		if due, is := timer.Next(c.ts); due != c.due || is != c.is {
			t.Errorf("P8.1: Next(%v) = %d, %v", c.ts, due, is)
		}
	}
}

func TestSort(t *testing.T) {
	for _, c := range []struct {
		ts, sorted []api.Timer
		want       error
	}{
		{list(1, 8, 3, 5), list(3, 5, 1, 8), nil}, {list(1, 8, 1, 9), nil, api.ErrArg}, {list(9, -1, 1, 8, 1, 8), nil, api.ErrRange}, {list(1, 8, 1, 8, 8, 0), nil, api.ErrRange},
		{list(1, 8, 1, 8, 2, 1010001), nil, api.ErrRange}, {list(1, 8, 1, 8, 2, -1), nil, api.ErrRange}, {list(-1, 0), nil, api.ErrRange}, {list(8, 0), nil, api.ErrRange},
		{nil, nil, nil}, {list(), nil, nil}, {list(7, 1010000, 0, 0), list(0, 0, 7, 1010000), nil}, {list(2, 5, 1, 5, 0, 5), list(0, 5, 1, 5, 2, 5), nil},
		{list(0, 1, 1, 2, 0, 3), nil, api.ErrArg},
	} {
		look := kept(t, c.ts)
		sorted, err := timer.Sort(c.ts)
		wantBare(t, "P8.1: Sort", err, c.want)
		wantList(t, "P8.1: Sort", sorted, c.sorted)
		spoil(sorted)
		look("Sort")
	}
	if _, err := timer.Sort(make([]api.Timer, 1<<20)); api.Code(err) != api.Code(api.ErrArg) {
		t.Errorf("P8.1: Sort of many timers of one process: %v", err)
	}
}

func TestSet(t *testing.T) {
	for _, c := range []struct {
		ts        []api.Timer
		proc, due int
		after     []api.Timer
		want      error
	}{
		{list(0, 7), 2, 5, list(2, 5, 0, 7), nil}, {list(2, 5, 0, 7), 0, 5, list(0, 5, 2, 5), nil}, {list(0, 7), 8, 5, nil, api.ErrArg}, {list(0, 7), 0, 1010001, nil, api.ErrArg},
		{list(0, 7), 0, 1010000, list(0, 1010000), nil}, {list(0, 7), 0, 7, list(0, 7), nil}, {nil, 7, 0, list(7, 0), nil}, {nil, -1, 0, nil, api.ErrArg}, {nil, 0, -1, nil, api.ErrArg},
		{nil, math.MaxInt, 0, nil, api.ErrArg}, {nil, 0, math.MaxInt, nil, api.ErrArg}, {nil, 0, math.MinInt, nil, api.ErrArg},
		{list(1, 5, 0, 5), 9, -1, nil, api.ErrState}, {list(8, 5), 0, 5, nil, api.ErrState}, {list(0, 5, 0, 6), 0, 5, nil, api.ErrState}, {list(0, -1), 0, 5, nil, api.ErrState},
	} {
		look := kept(t, c.ts)
		after, err := timer.Set(c.ts, c.proc, c.due)
		wantBare(t, "P8.2: Set", err, c.want)
		wantList(t, "P8.2: Set", after, c.after)
		spoil(after)
		look("Set")
	}
}

func TestDrop(t *testing.T) {
	for _, c := range []struct {
		ts    []api.Timer
		proc  int
		after []api.Timer
		was   bool
		want  error
	}{
		{list(2, 5, 0, 7), 2, list(0, 7), true, nil}, {list(2, 5, 0, 7), 0, list(2, 5), true, nil}, {list(2, 5, 0, 7), 1, list(2, 5, 0, 7), false, nil},
		{list(0, 7), -3, list(0, 7), false, nil}, {list(0, 7), math.MaxInt, list(0, 7), false, nil}, {nil, 0, nil, false, nil}, {list(3, 1), 3, nil, true, nil},
		{list(0, 7, 2, 5), 0, nil, false, api.ErrState}, {list(9, 1), 9, nil, false, api.ErrState},
	} {
		look := kept(t, c.ts)
		after, was, err := timer.Drop(c.ts, c.proc)
		wantBare(t, "P8.2: Drop", err, c.want)
		wantList(t, "P8.2: Drop", after, c.after)
		if was != c.was {
			t.Errorf("P8.2: Drop(%v, %d) says %v", c.ts, c.proc, was)
		}
		spoil(after)
		look("Drop")
	}
}

func TestFire(t *testing.T) {
	for _, c := range []struct {
		ts    []api.Timer
		now   int
		fired []int
		left  []api.Timer
		want  error
	}{
		{list(2, 5, 0, 7, 1, 7), 7, []int{2, 0, 1}, nil, nil}, {list(2, 5, 0, 7, 1, 7), 6, []int{2}, list(0, 7, 1, 7), nil}, {list(2, 5, 0, 7, 1, 7), -1, nil, list(2, 5, 0, 7, 1, 7), nil},
		{list(2, 5, 0, 7), 5, []int{2}, list(0, 7), nil}, {list(2, 5, 0, 7), 4, nil, list(2, 5, 0, 7), nil}, {list(2, 0), 0, []int{2}, nil, nil}, {nil, 0, nil, nil, nil},
		{list(2, 0, 1, 1010000), math.MaxInt, []int{2, 1}, nil, nil}, {list(2, 0), math.MinInt, nil, list(2, 0), nil},
		{list(0, 7, 2, 5), 9, nil, nil, api.ErrState}, {list(0, 5, 0, 7), 9, nil, nil, api.ErrState}, {list(8, 5), 9, nil, nil, api.ErrState},
	} {
		look := kept(t, c.ts)
		fired, left, err := timer.Fire(c.ts, c.now)
		wantBare(t, "P8.2: Fire", err, c.want)
		wantList(t, "P8.2: Fire", left, c.left)
		if !slices.Equal(fired, c.fired) {
			t.Errorf("P8.2: Fire(%v, %d) = %v", c.ts, c.now, fired)
		}
		spoil(left)
		look("Fire")
	}
}

func TestShift(t *testing.T) {
	for _, c := range []struct {
		ts    []api.Timer
		ticks int
		after []api.Timer
		want  error
	}{
		{list(3, 5, 1, 8, 0, 12), 10, list(1, 0, 3, 0, 0, 2), nil}, {list(3, 5, 1, 8, 0, 12), 0, nil, api.ErrArg}, {list(3, 5, 1, 8, 0, 12), -1, nil, api.ErrArg},
		{list(3, 5, 1, 8, 0, 12), 10001, nil, api.ErrArg}, {list(3, 5, 1, 8, 0, 12), 10000, list(0, 0, 1, 0, 3, 0), nil}, {list(3, 5, 1, 8, 0, 12), 1, list(3, 4, 1, 7, 0, 11), nil},
		{list(3, 5, 1, 8, 0, 12), 5, list(3, 0, 1, 3, 0, 7), nil}, {nil, 10000, nil, nil}, {nil, 0, nil, api.ErrArg}, {list(1, 1010000), 10000, list(1, 1000000), nil},
		{nil, math.MinInt, nil, api.ErrArg}, {nil, math.MaxInt, nil, api.ErrArg}, {list(1, 5, 0, 5), 0, nil, api.ErrState}, {list(1, 5, 1, 6), 10, nil, api.ErrState},
	} {
		look := kept(t, c.ts)
		after, err := timer.Shift(c.ts, c.ticks)
		wantBare(t, "P8.2: Shift", err, c.want)
		wantList(t, "P8.2: Shift", after, c.after)
		spoil(after)
		look("Shift")
	}
}
