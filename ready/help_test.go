package ready_test

import (
	"errors"
	"math/rand"
	"slices"
	"testing"

	"ferry/api"
	"ferry/ready"
)

// wantBare looks whether err is just that error (or none), without a place.
func wantBare(t *testing.T, what string, err, want error) {
	t.Helper()
	var at *api.At
	if api.Code(err) != api.Code(want) || errors.As(err, &at) {
		t.Errorf("%s: error %v at %d, want %v without a place", what, err, api.Place(err), want)
	}
}

// The processes of the examples.
func isReady(prio int) api.Proc { return api.Proc{State: api.Ready, Prio: prio} }

func isDormant() api.Proc { return api.Proc{State: api.Dormant} }

func waits(wait, obj, prio int) api.Proc {
	return api.Proc{State: api.Waiting, Wait: wait, Obj: obj, Prio: prio}
}

// example: the table t of the chapter.
func example() ready.Table {
	return roomy(ready.Table{
		Procs:  []api.Proc{isReady(5), isReady(5), isReady(9), waits(api.WaitSem, 1, 3), waits(api.WaitSleep, 0, 3)},
		Ready:  []int{1, 0, 2},
		Timers: []api.Timer{{Proc: 4, Due: 10}},
	})
}

func same(a, b ready.Table) bool {
	return slices.Equal(a.Procs, b.Procs) && slices.Equal(a.Ready, b.Ready) && slices.Equal(a.Timers, b.Timers)
}

func wantTable(t *testing.T, what string, got, want ready.Table) {
	t.Helper()
	if !same(got, want) {
		t.Errorf("%s:\n%v, want\n%v", what, got, want)
	}
}

func whole[T any](list []T) []T { return list[:cap(list)] }

// withRoom: the list with three spare elements behind it.
func withRoom[T any](list []T, spare T) []T {
	fresh := append(make([]T, 0, len(list)+3), list...)
	for i := len(list); i < cap(fresh); i++ {
		whole(fresh)[i] = spare
	}
	return fresh
}

// roomy: the table in lists with spare room.
func roomy(t ready.Table) ready.Table {
	return ready.Table{
		Procs:  withRoom(t.Procs, api.Proc{Pc: 4321}),
		Ready:  withRoom(t.Ready, 5),
		Timers: withRoom(t.Timers, api.Timer{Proc: 5, Due: 4321}),
	}
}

// entire: the table with its spare room, as new memory.
func entire(t ready.Table) ready.Table {
	return ready.Table{Procs: slices.Clone(whole(t.Procs)), Ready: slices.Clone(whole(t.Ready)), Timers: slices.Clone(whole(t.Timers))}
}

// kept gives a look whether the table, spare room included, is what it was.
func kept(t *testing.T, table ready.Table) func(what string) {
	was := entire(table)
	return func(what string) {
		t.Helper()
		if !same(entire(table), was) {
			t.Errorf("P9.5: %s: what was handed in has changed", what)
		}
	}
}

// spoil overwrites an answer, spare room included: whoever shares memory with it shows it.
func spoil(t ready.Table) {
	for i := range whole(t.Procs) {
		whole(t.Procs)[i] = api.Proc{Pc: 77, State: 77}
	}
	for i := range whole(t.Ready) {
		whole(t.Ready)[i] = -77
	}
	for i := range whole(t.Timers) {
		whole(t.Timers)[i] = api.Timer{Proc: -77, Due: -77}
	}
}

// call is one of the calls that answer a table, with its arguments.
type call struct {
	name string
	do   func(ready.Table) (ready.Table, error)
}

func changing(proc, a, b, c int, r1 uint32) []call {
	return []call{
		{"Yield", func(t ready.Table) (ready.Table, error) { return ready.Yield(t, proc) }},
		{"Block", func(t ready.Table) (ready.Table, error) { return ready.Block(t, proc, a, b, c) }},
		{"Wake", func(t ready.Table) (ready.Table, error) { return ready.Wake(t, proc, r1) }},
		{"Halt", func(t ready.Table) (ready.Table, error) { return ready.Halt(t, proc, a) }},
		{"Start", func(t ready.Table) (ready.Table, error) { return ready.Start(t, proc, r1, a) }},
		{"Rank", func(t ready.Table) (ready.Table, error) { return ready.Rank(t, proc, a) }},
		{"WakeAll", func(t ready.Table) (ready.Table, error) { return ready.WakeAll(t, a, b, r1) }},
		{"Fire", func(t ready.Table) (ready.Table, error) {
			after, _, err := ready.Fire(t, c)
			return after, err
		}},
	}
}

// someTable: any good table, in lists with spare room.
func someTable(r *rand.Rand) ready.Table {
	var t ready.Table
	for i := range r.Intn(9) {
		p := api.Proc{Pc: r.Uint32(), State: r.Intn(4), Prio: []int{0, 1, 1, 2, 2, 254, 255}[r.Intn(7)]}
		for k := 1; k < 16; k++ {
			p.Regs[k] = r.Uint32()
		}
		if p.State == api.Waiting {
			p.Wait = 1 + r.Intn(4)
			if p.Wait != api.WaitSleep {
				p.Obj = r.Intn(3)
			}
			if p.Wait == api.WaitSleep || r.Intn(2) == 0 {
				t.Timers = append(t.Timers, api.Timer{Proc: i, Due: someDue(r)})
			}
		}
		if p.State == api.Ready {
			t.Ready = append(t.Ready, i)
		}
		t.Procs = append(t.Procs, p)
	}
	r.Shuffle(len(t.Ready), func(i, k int) { t.Ready[i], t.Ready[k] = t.Ready[k], t.Ready[i] })
	sortTimers(t.Timers)
	return roomy(t)
}

func someDue(r *rand.Rand) int {
	edges := []int{0, 1, 2, 2, 3, 9999, 10000, 1000000, 1009999, 1010000}
	return edges[r.Intn(len(edges))]
}

// sortTimers: by Due and then by Proc, the two as one number.
func sortTimers(ts []api.Timer) {
	slices.SortFunc(ts, func(a, b api.Timer) int { return (a.Due-b.Due)*100 + a.Proc - b.Proc })
}
