package timer_test

import (
	"maps"
	"math/rand"
	"slices"
	"testing"

	"ferry/api"
	"ferry/timer"
)

// TestEveryShortList: all lists of up to three timers at the edges, in form or not, in every call.
func TestEveryShortList(t *testing.T) {
	var edges []api.Timer
	for _, proc := range []int{-1, 0, 1, 7, 8} {
		for _, due := range []int{-1, 0, 3, 1010000, 1010001} {
			edges = append(edges, api.Timer{Proc: proc, Due: due})
		}
	}
	everyCall(t, nil)
	for _, a := range edges {
		everyCall(t, []api.Timer{a})
		for _, b := range edges {
			everyCall(t, []api.Timer{a, b})
			for _, c := range edges {
				everyCall(t, []api.Timer{a, b, c})
			}
		}
	}
}

func everyCall(t *testing.T, ts []api.Timer) {
	t.Helper()
	look := kept(t, ts)
	for procs := -1; procs <= 9; procs++ {
		want := error(nil)
		if !formed(ts, procs) {
			want = api.ErrState
		}
		if procs < 0 || procs > 8 {
			want = api.ErrArg
		}
		wantBare(t, "P8.1: Check", timer.Check(ts, procs), want)
	}
	againstSort(t, ts)
	least, is := 0, false
	for _, x := range ts {
		if !is || x.Due < least {
			least, is = x.Due, true
		}
	}
	if due, ok := timer.Next(ts); due != least || ok != is {
		t.Errorf("P8.1: Next(%v) = %d, %v", ts, due, ok)
	}
	for _, proc := range []int{-1, 0, 1, 7, 8} {
		i := slices.IndexFunc(ts, func(x api.Timer) bool { return x.Proc == proc })
		if due, ok := timer.Find(ts, proc); ok != (i >= 0) || ok && due != ts[i].Due || !ok && due != 0 {
			t.Errorf("P8.1: Find(%v, %d) = %d, %v", ts, proc, due, ok)
		}
	}
	if !formed(ts, 8) {
		refused(t, ts)
	}
	look("a call on any list")
}

// againstSort: whatever the list is.
func againstSort(t *testing.T, ts []api.Timer) {
	t.Helper()
	want := error(nil)
	for i, x := range ts {
		for _, y := range ts[:i] {
			if x.Proc == y.Proc {
				want = api.ErrArg
			}
		}
	}
	for _, x := range ts {
		if x.Proc < 0 || x.Proc > 7 || x.Due < 0 || x.Due > 1010000 {
			want = api.ErrRange
		}
	}
	sorted, err := timer.Sort(ts)
	wantBare(t, "P8.1: Sort", err, want)
	if want == nil {
		wantList(t, "P8.1: Sort", sorted, listOf(duesOf(ts)))
	} else if sorted != nil {
		t.Errorf("P8.1: Sort(%v) = %v beside an error", ts, sorted)
	}
}

// refused: a list that isn't in form is told ahead of every wrong argument, with nothing beside it.
func refused(t *testing.T, ts []api.Timer) {
	t.Helper()
	for _, arg := range []int{-1, 0, 1, 10001} {
		set, err := timer.Set(ts, arg, arg)
		wantBare(t, "P8.2: Set", err, api.ErrState)
		dropped, was, err := timer.Drop(ts, arg)
		wantBare(t, "P8.2: Drop", err, api.ErrState)
		fired, left, err := timer.Fire(ts, arg)
		wantBare(t, "P8.2: Fire", err, api.ErrState)
		shifted, err := timer.Shift(ts, arg)
		wantBare(t, "P8.2: Shift", err, api.ErrState)
		if set != nil || dropped != nil || was || fired != nil || left != nil || shifted != nil {
			t.Errorf("P8.2: of %v beside an error: %v, %v, %v, %v, %v, %v", ts, set, dropped, was, fired, left, shifted)
		}
	}
}

// TestSetAndDrop: P8.2 and P8.5, against what each process is due at.
func TestSetAndDrop(t *testing.T) {
	r := rand.New(rand.NewSource(81))
	for range 4000 {
		ts := someList(r)
		look := kept(t, ts)
		proc, due := r.Intn(8), someDue(r)
		dues := duesOf(ts)
		_, had := dues[proc]
		dropped, was, err := timer.Drop(ts, proc)
		without := maps.Clone(dues)
		delete(without, proc)
		wantList(t, "P8.5: Drop", dropped, listOf(without))
		if _, is := timer.Find(dropped, proc); is || was != had || err != nil {
			t.Errorf("P8.5: Drop(%v, %d) says %v, %v", ts, proc, was, err)
		}
		set, err := timer.Set(ts, proc, due)
		dues[proc] = due
		wantList(t, "P8.5: Set", set, listOf(dues))
		if d, is := timer.Find(set, proc); d != due || !is || err != nil {
			t.Errorf("P8.5: behind Set(%v, %d, %d) Find says %d, %v, %v", ts, proc, due, d, is, err)
		}
		wantBare(t, "P8.2: Set's list", timer.Check(set, 8), nil)
		wantBare(t, "P8.2: Drop's list", timer.Check(dropped, 8), nil)
		spoil(set)
		spoil(dropped)
		look("Set and Drop")
	}
}

// TestFireInTwoSteps: P8.3.
func TestFireInTwoSteps(t *testing.T) {
	r := rand.New(rand.NewSource(82))
	for range 8000 {
		ts := someList(r)
		now, then := someDue(r)-1, someDue(r)-1
		now, then = min(now, then), max(now, then)
		first, rest, err := timer.Fire(ts, now)
		wantBare(t, "P8.3: Fire", err, nil)
		second, rest, err := timer.Fire(rest, then)
		wantBare(t, "P8.3: Fire", err, nil)
		once, left, err := timer.Fire(ts, then)
		wantBare(t, "P8.3: Fire", err, nil)
		if !slices.Equal(append(first, second...), once) || !slices.Equal(rest, left) {
			t.Errorf("P8.3: Fire(%v) at %d and %d: %v, %v; at once %v, %v", ts, now, then, first, second, once, left)
		}
		// Who fires and who is left are the whole list.
		var procs []int
		for _, x := range ts {
			procs = append(procs, x.Proc)
		}
		for _, x := range left {
			if x.Due <= then {
				t.Errorf("P8.2: behind Fire at %d %v is left", then, x)
			}
			once = append(once, x.Proc)
		}
		if !slices.Equal(once, procs) {
			t.Errorf("P8.2: Fire(%v, %d): %v", ts, then, once)
		}
		wantBare(t, "P8.2: Fire's rest", timer.Check(left, 8), nil)
	}
}

// TestTimeIsRelative: P8.4.
func TestTimeIsRelative(t *testing.T) {
	r := rand.New(rand.NewSource(83))
	for range 8000 {
		ts := someList(r)
		look := kept(t, ts)
		ticks := []int{1, 2, 5, 10, 9999, 10000, 1 + r.Intn(30)}[r.Intn(7)]
		shifted, err := timer.Shift(ts, ticks)
		wantBare(t, "P8.4: Shift", err, nil)
		wantBare(t, "P8.2: Shift's list", timer.Check(shifted, 8), nil)
		dues := duesOf(ts)
		for proc := range dues {
			dues[proc] = max(dues[proc]-ticks, 0)
		}
		wantList(t, "P8.2: Shift", shifted, listOf(dues))
		least, is := timer.Next(ts)
		inOrder := !is || least >= ticks
		for i := range ts {
			if inOrder && (shifted[i].Proc != ts[i].Proc || ts[i].Due-shifted[i].Due != ticks) {
				t.Errorf("P8.4: Shift(%v, %d) = %v", ts, ticks, shifted)
			}
		}
		for _, now := range []int{0, 1, 5, 29, 9999, 10000, 1009999, 1010000} {
			againstShifted(t, ts, shifted, now, ticks, inOrder)
		}
		spoil(shifted)
		look("Shift")
	}
}

func againstShifted(t *testing.T, ts, shifted []api.Timer, now, ticks int, inOrder bool) {
	t.Helper()
	late, _, err := timer.Fire(shifted, now)
	wantBare(t, "P8.4: Fire", err, nil)
	early, _, err := timer.Fire(ts, now+ticks)
	wantBare(t, "P8.4: Fire", err, nil)
	if !inOrder {
		slices.Sort(late)
		slices.Sort(early)
	}
	if !slices.Equal(late, early) {
		t.Errorf("P8.4: of %v behind Shift by %d: Fire at %d is %v, want %v", ts, ticks, now, late, early)
	}
}
