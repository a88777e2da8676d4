package epoch_test

import (
	"errors"
	"math/rand"
	"reflect"
	"slices"
	"testing"

	"ferry/api"
	"ferry/epoch"
	"ferry/plan"
	"ferry/valid"
)

// wantBare looks whether err is just that error (or none), without a place.
func wantBare(t *testing.T, what string, err, want error) {
	t.Helper()
	var at *api.At
	if api.Code(err) != api.Code(want) || errors.As(err, &at) {
		t.Errorf("%s: error %v at %d, want %v without a place", what, err, api.Place(err), want)
	}
}

func wantState(t *testing.T, what string, got, want api.State) {
	t.Helper()
	if !valid.Same(got, want) {
		t.Errorf("%s: %v, want %v", what, got, want)
	}
}

func wantInts(t *testing.T, what string, got []int, want ...int) {
	t.Helper()
	if !slices.Equal(got, want) {
		t.Errorf("%s: %v, want %v", what, got, want)
	}
}

// three: the plan of the chapter's examples: three pages and one process.
func three() api.Plan {
	return api.Plan{Id: 6, Pages: []api.PagePlan{{Rights: 3}, {Rights: 1}, {Rights: 7}}, Procs: []api.ProcPlan{{Auto: true}}}
}

// state: one of that plan, with the pages' first bytes; those of dirty are dirty.
func state(t *testing.T, number, frame int, first [3]byte, dirty ...int) api.State {
	t.Helper()
	s, err := plan.Boot(three())
	wantBare(t, "plan.Boot", err, nil)
	s.Epoch, s.Frame = number, frame
	for i := range s.Pages {
		s.Pages[i].Data[0] = first[i]
	}
	for _, i := range dirty {
		s.Pages[i].Dirty = true
	}
	return s
}

// exampleS, exampleB: the chapter's states s and b.
func exampleS(t *testing.T) api.State { return state(t, 4, 9, [3]byte{1, 2, 3}, 1, 2) }

func exampleB(t *testing.T) api.State { return state(t, 4, 7, [3]byte{1, 0, 3}) }

// parted is what Part answers.
type parted struct {
	rest  api.State
	index []int
	pages []api.Page
}

func part(t *testing.T, p api.Plan, s api.State) parted {
	t.Helper()
	rest, index, pages, err := epoch.Part(p, s)
	wantBare(t, "P17.1: Part", err, nil)
	return parted{rest, index, pages}
}

func mark(t *testing.T, p api.Plan, s api.State) api.State {
	t.Helper()
	m, err := epoch.Mark(p, s)
	wantBare(t, "P17.1: Mark", err, nil)
	return m
}

func since(t *testing.T, p api.Plan, base, s api.State) bool {
	t.Helper()
	is, err := epoch.Since(p, base, s)
	wantBare(t, "P17.1: Since", err, nil)
	return is
}

// broken: ways in which a state of that plan isn't at rest.
func broken() []func(s *api.State) {
	return []func(s *api.State){
		func(s *api.State) { s.Id = 7 }, func(s *api.State) { s.Frame = -1 }, func(s *api.State) { s.Epoch = -1 }, func(s *api.State) { s.Epoch = api.MaxEpoch + 1 },
		func(s *api.State) { s.Pages = s.Pages[:2] }, func(s *api.State) { s.Pages = nil }, func(s *api.State) { s.Pages = append(s.Pages, api.Page{}) }, func(s *api.State) { s.Pages[1].Rights = 3 },
		func(s *api.State) { s.Ready = nil }, func(s *api.State) { s.Procs = nil }, func(s *api.State) { s.Sems = []int{0} }, func(s *api.State) { *s = api.State{} },
	}
}

// wrongPlans: plans that aren't in form.
func wrongPlans() []api.Plan {
	wrong := three()
	wrong.Pages[1].Rights = 8
	return []api.Plan{{}, wrong}
}

func one[T any](r *rand.Rand, of ...T) T { return of[r.Intn(len(of))] }

// rich: a plan with a port of each kind, events, semaphores, and so many pages.
func rich(pages int) api.Plan {
	p := api.Plan{
		Id: 9, Procs: make([]api.ProcPlan, 4), Events: 3, Sems: []int{0, 5},
		Ports: []api.PortPlan{
			{Kind: api.SampleIn, Size: 4, Depth: 1, Refresh: 2}, {Kind: api.SampleOut, Size: 4, Depth: 1},
			{Kind: api.QueueIn, Size: 4, Depth: 2}, {Kind: api.QueueOut, Size: 4, Depth: 2},
		},
	}
	for i := range pages {
		p.Pages = append(p.Pages, api.PagePlan{Rights: i % 8})
	}
	return p
}

// someState: a state at rest of a rich plan, whose pages have few unlike bytes.
func someState(t *testing.T, r *rand.Rand, p api.Plan) api.State {
	t.Helper()
	s := api.State{Id: p.Id, Frame: one(r, 0, 1, 2147483647), Epoch: one(r, 0, 1, 1, 2147483646, 2147483647), Up: []bool{r.Intn(2) == 0, false, true}, Sems: []int{0, r.Intn(256)}}
	s.Ports = []api.Port{{Msgs: []string{"a"}, Age: r.Intn(256)}, {}, {}, {}}
	if r.Intn(2) == 0 {
		s.Ports[2].Msgs = []string{"b", ""}
	}
	s.Procs = []api.Proc{
		{State: api.Ready, Pc: r.Uint32()}, {State: api.Waiting, Wait: api.WaitSleep, Prio: r.Intn(256)},
		{State: api.Waiting, Wait: one(r, api.WaitEvent, api.WaitSem)}, {State: api.Ready},
	}
	if s.Procs[2].Wait == api.WaitEvent {
		s.Procs[2].Obj = 1
	}
	s.Procs[3].Regs[5] = r.Uint32()
	s.Ready, s.Timers = one(r, []int{0, 3}, []int{3, 0}), []api.Timer{{Proc: 1, Due: r.Intn(1000)}, {Proc: 2, Due: 1000 + r.Intn(1000)}}
	for _, q := range p.Pages {
		page := api.Page{Rights: q.Rights, Dirty: r.Intn(2) == 0}
		page.Data[one(r, 0, 63)] = byte(r.Intn(2))
		s.Pages = append(s.Pages, page)
	}
	wantBare(t, "a random state is at rest", valid.Rest(p, s), nil)
	return s
}

// baseOf: a base that the state was written since: whatever the dirty pages were then, and all else.
func baseOf(t *testing.T, r *rand.Rand, p api.Plan, s api.State) api.State {
	t.Helper()
	base := someState(t, r, p)
	base.Epoch = s.Epoch
	for i := range base.Pages {
		base.Pages[i].Dirty = false
		if !s.Pages[i].Dirty {
			base.Pages[i].Data = s.Pages[i].Data
		}
	}
	return base
}

// roomy: the value, as new memory, all of whose lists have spare room.
func roomy[T any](v T) T { return copied(reflect.ValueOf(v), 3).Interface().(T) }

// copied: the value as new memory, with so many spare elements behind each list, which are like its first one.
func copied(v reflect.Value, spare int) reflect.Value {
	fresh := reflect.New(v.Type()).Elem()
	switch v.Kind() {
	case reflect.Struct:
		for i := range v.NumField() {
			fresh.Field(i).Set(copied(v.Field(i), spare))
		}
	case reflect.Slice:
		list := reflect.MakeSlice(v.Type(), v.Len()+spare, v.Len()+spare)
		for i := range list.Len() {
			if v.Len() > 0 {
				list.Index(i).Set(copied(v.Index(i%v.Len()), spare))
			}
		}
		fresh.Set(list.Slice(0, v.Len()))
	default:
		fresh.Set(v)
	}
	return fresh
}

// entire: the value with the spare room of its lists, as new memory.
func entire(v reflect.Value) reflect.Value {
	fresh := reflect.New(v.Type()).Elem()
	switch v.Kind() {
	case reflect.Struct:
		for i := range v.NumField() {
			fresh.Field(i).Set(entire(v.Field(i)))
		}
	case reflect.Slice:
		all := v.Slice(0, v.Cap())
		fresh.Set(reflect.MakeSlice(v.Type(), v.Cap(), v.Cap()))
		for i := range v.Cap() {
			fresh.Index(i).Set(entire(all.Index(i)))
		}
	default:
		fresh.Set(v)
	}
	return fresh
}

// kept gives a look whether the value, spare room included, is what it was.
func kept[T any](t *testing.T, v T) func(what string) {
	was := entire(reflect.ValueOf(v)).Interface()
	return func(what string) {
		t.Helper()
		if !reflect.DeepEqual(entire(reflect.ValueOf(v)).Interface(), was) {
			t.Errorf("R2: %s: what was handed in has changed", what)
		}
	}
}

// room is the memory of a list, spare room included.
type room struct{ from, to uintptr }

// rooms: of all lists of a value, and of those in them.
func rooms(v reflect.Value) []room {
	var all []room
	switch v.Kind() {
	case reflect.Struct:
		for i := range v.NumField() {
			all = append(all, rooms(v.Field(i))...)
		}
	case reflect.Slice:
		if v.Cap() > 0 {
			all = append(all, room{v.Pointer(), v.Pointer() + uintptr(v.Cap())*v.Type().Elem().Size()})
		}
		if k := v.Type().Elem().Kind(); k == reflect.Struct || k == reflect.Slice {
			for i := range v.Len() {
				all = append(all, rooms(v.Index(i))...)
			}
		}
	}
	return all
}

// wantApart looks whether no two lists of all these values share memory.
func wantApart(t *testing.T, what string, values ...any) {
	t.Helper()
	var all []room
	for _, v := range values {
		all = append(all, rooms(reflect.ValueOf(v))...)
	}
	slices.SortFunc(all, func(a, b room) int {
		if a.from < b.from {
			return -1
		}
		return 1
	})
	for i := 1; i < len(all); i++ {
		if all[i].from < all[i-1].to {
			t.Fatalf("R2: %s: two lists share memory", what)
		}
	}
}
