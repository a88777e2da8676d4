package frame_test

import (
	"errors"
	"math/rand"
	"reflect"
	"slices"
	"testing"

	"ferry/api"
	"ferry/frame"
)

// wantBare looks whether err is just that error (or none), without a place.
func wantBare(t *testing.T, what string, err, want error) {
	t.Helper()
	var at *api.At
	if api.Code(err) != api.Code(want) || errors.As(err, &at) {
		t.Errorf("%s: error %v at %d, want %v without a place", what, err, api.Place(err), want)
	}
}

// wantAt looks whether err is that error, at that place.
func wantAt(t *testing.T, what string, err, want error, place int) {
	t.Helper()
	var at *api.At
	if api.Code(err) != api.Code(want) || !errors.As(err, &at) || at.Place != place {
		t.Errorf("%s: error %v at %d, want %v at %d", what, err, api.Place(err), want, place)
	}
}

// want looks for the error at that place, or without one where the place is -1.
func want(t *testing.T, what string, err, wanted error, place int) {
	t.Helper()
	if place < 0 {
		wantBare(t, what, err, wanted)
	} else {
		wantAt(t, what, err, wanted, place)
	}
}

// example: the configuration c of the chapter.
func example() api.Config {
	return roomy(api.Config{
		Ticks: 100, Tries: 5,
		Parts: []api.Plan{
			{Id: 0, Pages: []api.PagePlan{{Rights: 5}}, Procs: []api.ProcPlan{{}}, Ports: []api.PortPlan{{Kind: api.QueueOut, Size: 4, Depth: 2}}},
			{Id: 1, Pages: []api.PagePlan{{Rights: 5}}, Procs: []api.ProcPlan{{}}, Ports: []api.PortPlan{{Kind: api.QueueIn, Size: 4, Depth: 2}}},
		},
		Homes:   []int{0, 0},
		Windows: []api.Window{{Part: 0, Start: 0, Len: 40}, {Part: api.Snap, Start: 50, Len: 10}, {Part: 1, Start: 60, Len: 20}, {Part: 0, Start: 80, Len: 20}},
		Links:   []api.Link{{From: 0, Out: 0, To: 1, In: 0}},
	})
}

// turned: the example behind some turn.
func turned(turn func(c *api.Config)) api.Config {
	c := example()
	turn(&c)
	return c
}

func whole[T any](list []T) []T { return list[:cap(list)] }

// withRoom: the list, as new memory, with three spare elements behind it.
func withRoom[T any](list []T, spare T) []T {
	fresh := append(make([]T, 0, len(list)+3), list...)
	for i := len(list); i < cap(fresh); i++ {
		whole(fresh)[i] = spare
	}
	return fresh
}

// roomy: the configuration, as new memory, in lists with spare room.
func roomy(c api.Config) api.Config {
	c.Parts = withRoom(c.Parts, api.Plan{Id: 4321})
	for i := range c.Parts {
		p := &c.Parts[i]
		p.Pages = withRoom(p.Pages, api.PagePlan{Rights: 1, Init: "spare"})
		p.Procs = withRoom(p.Procs, api.ProcPlan{Entry: 4, Prio: 4})
		p.Ports = withRoom(p.Ports, api.PortPlan{Kind: api.QueueIn, Size: 3, Depth: 3})
		p.Sems = withRoom(p.Sems, 43)
	}
	c.Homes = withRoom(c.Homes, 1)
	c.Windows = withRoom(c.Windows, api.Window{Part: 0, Start: 4, Len: 4})
	c.Links = withRoom(c.Links, api.Link{From: 1, To: 0})
	return c
}

// entire: the value with the spare room of its lists, as new memory.
func entire(v reflect.Value) reflect.Value {
	fresh := reflect.New(v.Type()).Elem()
	switch v.Kind() {
	case reflect.Struct:
		for i := range v.NumField() {
			fresh.Field(i).Set(entire(v.Field(i)))
		}
	case reflect.Slice:
		all := v.Slice(0, v.Cap())
		fresh.Set(reflect.MakeSlice(v.Type(), v.Cap(), v.Cap()))
		for i := range v.Cap() {
			fresh.Index(i).Set(entire(all.Index(i)))
		}
	default:
		fresh.Set(v)
	}
	return fresh
}

// kept gives a look whether the values, spare room included, are what they were.
func kept(t *testing.T, values ...any) func(what string) {
	var was []any
	for _, v := range values {
		was = append(was, entire(reflect.ValueOf(v)).Interface())
	}
	return func(what string) {
		t.Helper()
		for i, v := range values {
			if !reflect.DeepEqual(entire(reflect.ValueOf(v)).Interface(), was[i]) {
				t.Errorf("R2: %s: what was handed in has changed", what)
			}
		}
	}
}

// room is the memory of a list, spare room included.
type room struct{ from, to uintptr }

// rooms: of all lists of a value, and of those in them.
func rooms(v reflect.Value) []room {
	var all []room
	switch v.Kind() {
	case reflect.Struct:
		for i := range v.NumField() {
			all = append(all, rooms(v.Field(i))...)
		}
	case reflect.Slice:
		if v.Cap() > 0 {
			all = append(all, room{v.Pointer(), v.Pointer() + uintptr(v.Cap())*v.Type().Elem().Size()})
		}
		if k := v.Type().Elem().Kind(); k == reflect.Struct || k == reflect.Slice {
			for i := range v.Len() {
				all = append(all, rooms(v.Index(i))...)
			}
		}
	}
	return all
}

// wantApart looks whether no two lists of all these values share memory.
func wantApart(t *testing.T, what string, values ...any) {
	t.Helper()
	var all []room
	for _, v := range values {
		all = append(all, rooms(reflect.ValueOf(v))...)
	}
	slices.SortFunc(all, func(a, b room) int {
		if a.from < b.from {
			return -1
		}
		return 1
	})
	for i := 1; i < len(all); i++ {
		if all[i].from < all[i-1].to {
			t.Fatalf("R2: %s: two lists share memory", what)
		}
	}
}

// wantPlanError: each call but Check and Same refuses a configuration that isn't in form, whatever its other arguments are.
func wantPlanError(t *testing.T, c api.Config) {
	t.Helper()
	n := len(c.Parts)
	for _, x := range []int{0, -7} {
		boots, err := frame.Boots(c, x)
		wantRefused(t, "Boots", err, len(boots) == 0)
		windows, err := frame.Windows(c, x)
		wantRefused(t, "Windows", err, len(windows) == 0)
		at, err := frame.At(c, x)
		wantRefused(t, "At", err, at == 0)
		next, err := frame.Next(c, 0, x)
		wantRefused(t, "Next", err, next == 0)
		load, err := frame.Load(c, x)
		wantRefused(t, "Load", err, load == 0)
		joined, err := frame.Joined(c, x)
		wantRefused(t, "Joined", err, !joined)
		brought, err := frame.Carry(c, make([]bool, max(0, n+x)), make([][]api.Msg, n))
		wantRefused(t, "Carry", err, len(brought) == 0)
	}
	idle, err := frame.Idle(c)
	wantRefused(t, "Idle", err, idle == 0)
}

func wantRefused(t *testing.T, what string, err error, zero bool) {
	t.Helper()
	wantBare(t, "P14.2: "+what+" of what isn't in form", err, api.ErrPlan)
	if !zero {
		t.Errorf("F1: %s answers something beside an error", what)
	}
}

func one[T any](r *rand.Rand, of ...T) T { return of[r.Intn(len(of))] }
