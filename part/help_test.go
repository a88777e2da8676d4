package part_test

import (
	"errors"
	"math/rand"
	"reflect"
	"slices"
	"strings"
	"testing"

	"ferry/api"
	"ferry/isa"
	"ferry/part"
	"ferry/plan"
)

// wantBare looks whether err is just that error (or none), without a place.
func wantBare(t *testing.T, what string, err, want error) {
	t.Helper()
	var at *api.At
	if api.Code(err) != api.Code(want) || errors.As(err, &at) {
		t.Errorf("%s: error %v at %d, want %v without a place", what, err, api.Place(err), want)
	}
}

// words: the bytes of the instructions, a semicolon between two.
func words(t *testing.T, text string) string {
	t.Helper()
	list, err := isa.Assemble(strings.ReplaceAll(text, ";", "\n"))
	if err != nil {
		t.Fatalf("%q: %v", text, err)
	}
	return string(isa.Bytes(list))
}

// example: the plan P of the chapter, with these instructions at 0 and at 32, and its boot state.
func example(t *testing.T, first, second string) (api.Plan, api.State) {
	t.Helper()
	code := make([]byte, 64)
	copy(code, words(t, first))
	copy(code[32:], words(t, second))
	p := api.Plan{
		Pages: []api.PagePlan{{Rights: 7, Init: string(code)}},
		Procs: []api.ProcPlan{{Prio: 1, Auto: true}, {Entry: 32, Prio: 1, Auto: true}},
	}
	return p, boot(t, p)
}

func boot(t *testing.T, p api.Plan) api.State {
	t.Helper()
	s, err := plan.Boot(p)
	if err != nil {
		t.Fatalf("plan.Boot: %v", err)
	}
	return roomy(s)
}

// begin, window and end make calls that have no error, and look whether they keep what they are handed.
func begin(t *testing.T, p api.Plan, s api.State, msgs ...api.Msg) (api.State, []api.Report) {
	t.Helper()
	look := keptAll(t, p, s)
	after, reports, err := part.Begin(p, s, msgs)
	wantBare(t, "P13.1: Begin", err, nil)
	look("Begin")
	wantApart(t, "P13.6: Begin", p, s, msgs, after, reports)
	return after, reports
}

func window(t *testing.T, p api.Plan, s api.State, start, length int) (api.State, []api.Report) {
	t.Helper()
	look := keptAll(t, p, s)
	after, reports, err := part.Window(p, s, start, length)
	wantBare(t, "P13.1: Window", err, nil)
	look("Window")
	wantApart(t, "P13.6: Window", p, s, after, reports)
	return after, reports
}

func end(t *testing.T, p api.Plan, s api.State, ticks int) (api.State, []api.Msg) {
	t.Helper()
	look := keptAll(t, p, s)
	after, msgs, err := part.End(p, s, ticks)
	wantBare(t, "P13.1: End", err, nil)
	look("End")
	wantApart(t, "P13.6: End", p, s, after, msgs)
	return after, msgs
}

// keptAll gives a look whether plan and state are what they were.
func keptAll(t *testing.T, p api.Plan, s api.State) func(what string) {
	look, lookPlan := kept(t, s), keptPlan(t, p)
	return func(what string) {
		t.Helper()
		look(what)
		lookPlan(what)
	}
}

func whole[T any](list []T) []T { return list[:cap(list)] }

// withRoom: the list, as new memory, with three spare elements behind it.
func withRoom[T any](list []T, spare T) []T {
	fresh := append(make([]T, 0, len(list)+3), list...)
	for i := len(list); i < cap(fresh); i++ {
		whole(fresh)[i] = spare
	}
	return fresh
}

// roomy: the state, as new memory, in lists with spare room.
func roomy(s api.State) api.State {
	s.Procs = withRoom(s.Procs, api.Proc{Pc: 4321})
	s.Ready = withRoom(s.Ready, 5)
	s.Timers = withRoom(s.Timers, api.Timer{Proc: 5, Due: 4321})
	s.Up = withRoom(s.Up, true)
	s.Sems = withRoom(s.Sems, 4321)
	s.Ports = withRoom(s.Ports, api.Port{Age: 4321})
	for i := range s.Ports {
		s.Ports[i].Msgs = withRoom(s.Ports[i].Msgs, "spare")
	}
	s.Pages = withRoom(s.Pages, api.Page{Rights: 4321})
	return s
}

// entire: the state with its spare room, as new memory.
func entire(s api.State) api.State {
	s.Procs, s.Ready, s.Timers = slices.Clone(whole(s.Procs)), slices.Clone(whole(s.Ready)), slices.Clone(whole(s.Timers))
	s.Up, s.Sems, s.Pages = slices.Clone(whole(s.Up)), slices.Clone(whole(s.Sems)), slices.Clone(whole(s.Pages))
	s.Ports = slices.Clone(whole(s.Ports))
	for i := range s.Ports {
		s.Ports[i].Msgs = slices.Clone(whole(s.Ports[i].Msgs))
	}
	return s
}

func samePorts(a, b []api.Port) bool {
	return slices.EqualFunc(a, b, func(a, b api.Port) bool { return a.Age == b.Age && slices.Equal(a.Msgs, b.Msgs) })
}

// same: field by field.
func same(a, b api.State) bool {
	return a.Id == b.Id && a.Frame == b.Frame && a.Epoch == b.Epoch && slices.Equal(a.Procs, b.Procs) &&
		slices.Equal(a.Ready, b.Ready) && slices.Equal(a.Timers, b.Timers) && slices.Equal(a.Up, b.Up) &&
		slices.Equal(a.Sems, b.Sems) && samePorts(a.Ports, b.Ports) && slices.Equal(a.Pages, b.Pages)
}

// kept gives a look whether the state, spare room included, is what it was.
func kept(t *testing.T, s api.State) func(what string) {
	was := entire(s)
	return func(what string) {
		t.Helper()
		if !same(entire(s), was) {
			t.Errorf("P13.6: %s: what was handed in has changed", what)
		}
	}
}

// keptPlan: the same, of a plan.
func keptPlan(t *testing.T, p api.Plan) func(what string) {
	entire := func() api.Plan {
		return api.Plan{Pages: whole(p.Pages), Procs: whole(p.Procs), Ports: whole(p.Ports), Sems: whole(p.Sems)}
	}
	was := entire()
	was.Pages, was.Procs, was.Ports, was.Sems = slices.Clone(was.Pages), slices.Clone(was.Procs), slices.Clone(was.Ports), slices.Clone(was.Sems)
	return func(what string) {
		t.Helper()
		if !plan.Same(entire(), was) {
			t.Errorf("P13.6: %s: the plan that was handed in has changed", what)
		}
	}
}

// room is the memory of a list, spare room included.
type room struct{ from, to uintptr }

// rooms: of all lists of a value, and of those in them.
func rooms(v reflect.Value) []room {
	var all []room
	switch v.Kind() {
	case reflect.Struct:
		for i := range v.NumField() {
			all = append(all, rooms(v.Field(i))...)
		}
	case reflect.Slice:
		if v.Cap() > 0 {
			all = append(all, room{v.Pointer(), v.Pointer() + uintptr(v.Cap())*v.Type().Elem().Size()})
		}
		if k := v.Type().Elem().Kind(); k == reflect.Struct || k == reflect.Slice {
			for i := range v.Len() {
				all = append(all, rooms(v.Index(i))...)
			}
		}
	}
	return all
}

// wantApart looks whether no two lists of all these values share memory.
func wantApart(t *testing.T, what string, values ...any) {
	t.Helper()
	var all []room
	for _, v := range values {
		all = append(all, rooms(reflect.ValueOf(v))...)
	}
	slices.SortFunc(all, func(a, b room) int {
		if a.from < b.from {
			return -1
		}
		return 1
	})
	for i := 1; i < len(all); i++ {
		if all[i].from < all[i-1].to {
			t.Fatalf("%s: two lists share memory", what)
		}
	}
}

func one[T any](r *rand.Rand, of ...T) T { return of[r.Intn(len(of))] }

func someBytes(r *rand.Rand, n int) string {
	b := make([]byte, n)
	r.Read(b)
	return string(b)
}
