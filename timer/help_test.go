package timer_test

import (
	"errors"
	"math/rand"
	"slices"
	"testing"

	"ferry/api"
)

// wantBare looks whether err is just that error (or none), without a place.
func wantBare(t *testing.T, what string, err, want error) {
	t.Helper()
	var at *api.At
	if api.Code(err) != api.Code(want) || errors.As(err, &at) {
		t.Errorf("%s: error %v at %d, want %v without a place", what, err, api.Place(err), want)
	}
}

// wantList looks whether the list is just this one.
func wantList(t *testing.T, what string, got, want []api.Timer) {
	t.Helper()
	if !slices.Equal(got, want) {
		t.Errorf("%s: %v, want %v", what, got, want)
	}
}

// list: pairs of a process and when its timer is due, in a list with spare room.
func list(pairs ...int) []api.Timer {
	ts := make([]api.Timer, 0, len(pairs)/2+3)
	for i := 0; i+1 < len(pairs); i += 2 {
		ts = append(ts, api.Timer{Proc: pairs[i], Due: pairs[i+1]})
	}
	for i := range whole(ts)[len(ts):] {
		whole(ts)[len(ts)+i] = api.Timer{Proc: 5, Due: 4321}
	}
	return ts
}

func whole[T any](list []T) []T { return list[:cap(list)] }

// kept gives a look whether the list, spare room included, is what it was.
func kept(t *testing.T, ts []api.Timer) func(what string) {
	was := slices.Clone(whole(ts))
	return func(what string) {
		t.Helper()
		if !slices.Equal(whole(ts), was) {
			t.Errorf("R2: %s: what was handed in has changed", what)
		}
	}
}

// spoil overwrites an answer, spare room included: whoever shares memory with it shows it.
func spoil(ts []api.Timer) {
	for i := range whole(ts) {
		whole(ts)[i] = api.Timer{Proc: 77, Due: -77}
	}
}

// less: is a ahead of b, by Due and then by Proc?
func less(a, b api.Timer) bool { return a.Due < b.Due || a.Due == b.Due && a.Proc < b.Proc }

// formed: what the chapter calls a list in form for n processes, pair by pair.
func formed(ts []api.Timer, n int) bool {
	for i, x := range ts {
		if x.Proc < 0 || x.Proc > n-1 || x.Due < 0 || x.Due > 1010000 {
			return false
		}
		for _, y := range ts[i+1:] {
			if !less(x, y) || x.Proc == y.Proc {
				return false
			}
		}
	}
	return true
}

// listOf: the list in form of these processes' Dues, the least taken out again and again.
func listOf(dues map[int]int) []api.Timer {
	var ts []api.Timer
	for len(ts) < len(dues) {
		next, found := api.Timer{}, false
		for proc, due := range dues {
			x := api.Timer{Proc: proc, Due: due}
			if !slices.Contains(ts, x) && (!found || less(x, next)) {
				next, found = x, true
			}
		}
		ts = append(ts, next)
	}
	return ts
}

// duesOf: what each process of the list is due at.
func duesOf(ts []api.Timer) map[int]int {
	dues := map[int]int{}
	for _, x := range ts {
		dues[x.Proc] = x.Due
	}
	return dues
}

// someList: any list in form, with spare room; often several timers of one Due.
func someList(r *rand.Rand) []api.Timer {
	dues := map[int]int{}
	for _, proc := range r.Perm(8)[:r.Intn(9)] {
		dues[proc] = someDue(r)
	}
	var pairs []int
	for _, x := range listOf(dues) {
		pairs = append(pairs, x.Proc, x.Due)
	}
	return list(pairs...)
}

func someDue(r *rand.Rand) int {
	edges := []int{0, 0, 1, 5, 10, 9999, 10000, 10001, 1000000, 1009999, 1010000}
	if r.Intn(2) == 0 {
		return r.Intn(30)
	}
	return edges[r.Intn(len(edges))]
}
