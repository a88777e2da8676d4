package sys_test

import (
	"errors"
	"math/rand"
	"reflect"
	"slices"
	"testing"

	"ferry/api"
	"ferry/plan"
	"ferry/sys"
)

// wantBare looks whether err is just that error (or none), without a place.
func wantBare(t *testing.T, what string, err, want error) {
	t.Helper()
	var at *api.At
	if api.Code(err) != api.Code(want) || errors.As(err, &at) {
		t.Errorf("%s: error %v at %d, want %v without a place", what, err, api.Place(err), want)
	}
}

// wantAt looks whether err is that error, at that place.
func wantAt(t *testing.T, what string, err, want error, place int) {
	t.Helper()
	var at *api.At
	if api.Code(err) != api.Code(want) || !errors.As(err, &at) || at.Place != place {
		t.Errorf("%s: error %v at %d, want %v at %d", what, err, api.Place(err), want, place)
	}
}

// example: the plan and the state of the chapter's examples; process 0's Pc is 8.
func example() (api.Plan, api.State) {
	p := api.Plan{
		Pages: []api.PagePlan{{Rights: 7}},
		Procs: []api.ProcPlan{{Prio: 5, Auto: true}, {Prio: 5, Auto: true}},
		Ports: []api.PortPlan{{Kind: api.QueueIn, Size: 4, Depth: 2}, {Kind: api.QueueOut, Size: 4, Depth: 2}}, Events: 1, Sems: []int{0},
	}
	s := api.State{
		Frame: 6, Epoch: 3,
		Procs: []api.Proc{{State: api.Ready, Prio: 5, Pc: 8}, {State: api.Ready, Prio: 5}}, Ready: []int{0, 1},
		Up: []bool{false}, Sems: []int{0}, Ports: make([]api.Port, 2), Pages: []api.Page{{Rights: 7}},
	}
	return p, roomy(s)
}

// rich: a plan with more of all, and its boot state.
func rich(t *testing.T) (api.Plan, api.State) {
	t.Helper()
	p := api.Plan{
		Id:    9,
		Pages: []api.PagePlan{{Rights: 5, Init: "the first page"}, {Rights: 3}, {Rights: 2}, {Rights: 1, Init: "the last"}},
		Procs: []api.ProcPlan{{Prio: 5, Auto: true}, {Entry: 64, Prio: 7, Auto: true}, {Entry: 8, Prio: 255}, {Entry: 4, Prio: 5}},
		Ports: []api.PortPlan{
			{Kind: api.SampleIn, Size: 4, Depth: 1, Refresh: 2}, {Kind: api.SampleOut, Size: 32, Depth: 1},
			{Kind: api.QueueIn, Size: 32, Depth: 2}, {Kind: api.QueueOut, Size: 4, Depth: 2},
		},
		Events: 3, Sems: []int{0, 5},
	}
	s, err := plan.Boot(p)
	if err != nil {
		t.Fatalf("plan.Boot: %v", err)
	}
	return p, roomy(s)
}

// with: the state, as new memory, in which a process has these registers from r1 on.
func with(s api.State, proc int, regs ...uint32) api.State {
	s = roomy(s)
	copy(s.Procs[proc].Regs[1:], regs)
	return s
}

// do makes a call that has neither an error nor a fault.
func do(t *testing.T, p api.Plan, s api.State, proc, call, now int) sys.Result {
	t.Helper()
	look, lookPlan := kept(t, s), keptPlan(t, p)
	got, err := sys.Do(p, s, proc, call, now)
	if err != nil || got.Fault != api.FaultNone {
		t.Fatalf("P12.1: call %d of process %d at %d: fault %d, error %v", call, proc, now, got.Fault, err)
	}
	look(sys.Name(call))
	lookPlan(sys.Name(call))
	wantApart(t, "P12.6: "+sys.Name(call), p, s, got)
	return got
}

func whole[T any](list []T) []T { return list[:cap(list)] }

// withRoom: the list, as new memory, with three spare elements behind it.
func withRoom[T any](list []T, spare T) []T {
	fresh := append(make([]T, 0, len(list)+3), list...)
	for i := len(list); i < cap(fresh); i++ {
		whole(fresh)[i] = spare
	}
	return fresh
}

// roomy: the state, as new memory, in lists with spare room.
func roomy(s api.State) api.State {
	s.Procs = withRoom(s.Procs, api.Proc{Pc: 4321})
	s.Ready = withRoom(s.Ready, 5)
	s.Timers = withRoom(s.Timers, api.Timer{Proc: 5, Due: 4321})
	s.Up = withRoom(s.Up, true)
	s.Sems = withRoom(s.Sems, 4321)
	s.Ports = withRoom(s.Ports, api.Port{Age: 4321})
	for i := range s.Ports {
		s.Ports[i].Msgs = withRoom(s.Ports[i].Msgs, "spare")
	}
	s.Pages = withRoom(s.Pages, api.Page{Rights: 4321})
	return s
}

// entire: the state with its spare room, as new memory.
func entire(s api.State) api.State {
	s.Procs, s.Ready, s.Timers = slices.Clone(whole(s.Procs)), slices.Clone(whole(s.Ready)), slices.Clone(whole(s.Timers))
	s.Up, s.Sems, s.Pages = slices.Clone(whole(s.Up)), slices.Clone(whole(s.Sems)), slices.Clone(whole(s.Pages))
	s.Ports = slices.Clone(whole(s.Ports))
	for i := range s.Ports {
		s.Ports[i].Msgs = slices.Clone(whole(s.Ports[i].Msgs))
	}
	return s
}

func samePorts(a, b []api.Port) bool {
	return slices.EqualFunc(a, b, func(a, b api.Port) bool { return a.Age == b.Age && slices.Equal(a.Msgs, b.Msgs) })
}

// same: field by field.
func same(a, b api.State) bool {
	return a.Id == b.Id && a.Frame == b.Frame && a.Epoch == b.Epoch && slices.Equal(a.Procs, b.Procs) &&
		slices.Equal(a.Ready, b.Ready) && slices.Equal(a.Timers, b.Timers) && slices.Equal(a.Up, b.Up) &&
		slices.Equal(a.Sems, b.Sems) && samePorts(a.Ports, b.Ports) && slices.Equal(a.Pages, b.Pages)
}

// kept gives a look whether the state, spare room included, is what it was.
func kept(t *testing.T, s api.State) func(what string) {
	was := entire(s)
	return func(what string) {
		t.Helper()
		if !same(entire(s), was) {
			t.Errorf("P12.6: %s: what was handed in has changed", what)
		}
	}
}

// keptPlan: the same, of a plan.
func keptPlan(t *testing.T, p api.Plan) func(what string) {
	entire := func() api.Plan {
		return api.Plan{Pages: whole(p.Pages), Procs: whole(p.Procs), Ports: whole(p.Ports), Sems: whole(p.Sems)}
	}
	was := entire()
	was.Pages, was.Procs, was.Ports, was.Sems = slices.Clone(was.Pages), slices.Clone(was.Procs), slices.Clone(was.Ports), slices.Clone(was.Sems)
	return func(what string) {
		t.Helper()
		if !plan.Same(entire(), was) {
			t.Errorf("P12.6: %s: the plan that was handed in has changed", what)
		}
	}
}

// room is the memory of a list, spare room included.
type room struct{ from, to uintptr }

// rooms: of all lists of a value, and of those in them.
func rooms(v reflect.Value) []room {
	var all []room
	switch v.Kind() {
	case reflect.Struct:
		for i := range v.NumField() {
			all = append(all, rooms(v.Field(i))...)
		}
	case reflect.Slice:
		if v.Cap() > 0 {
			all = append(all, room{v.Pointer(), v.Pointer() + uintptr(v.Cap())*v.Type().Elem().Size()})
		}
		if k := v.Type().Elem().Kind(); k == reflect.Struct || k == reflect.Slice {
			for i := range v.Len() {
				all = append(all, rooms(v.Index(i))...)
			}
		}
	}
	return all
}

// wantApart looks whether no two lists of all these values share memory.
func wantApart(t *testing.T, what string, values ...any) {
	t.Helper()
	var all []room
	for _, v := range values {
		all = append(all, rooms(reflect.ValueOf(v))...)
	}
	slices.SortFunc(all, func(a, b room) int {
		if a.from < b.from {
			return -1
		}
		return 1
	})
	for i := 1; i < len(all); i++ {
		if all[i].from < all[i-1].to {
			t.Fatalf("%s: two lists share memory", what)
		}
	}
}

func one[T any](r *rand.Rand, of ...T) T { return of[r.Intn(len(of))] }

func someBytes(r *rand.Rand, n int) string {
	b := make([]byte, n)
	r.Read(b)
	return string(b)
}

// somePlan: any plan in form, small enough that much of it comes together.
func somePlan(r *rand.Rand) api.Plan {
	p := api.Plan{Id: r.Intn(3), Events: r.Intn(4), Mobile: r.Intn(2) == 0}
	for range 1 + r.Intn(3) {
		p.Pages = append(p.Pages, api.PagePlan{Rights: one(r, 3, 7, r.Intn(8))})
	}
	for range 1 + r.Intn(8) {
		p.Procs = append(p.Procs, api.ProcPlan{Entry: 4 * r.Intn(16*len(p.Pages)), Prio: one(r, 0, 1, 255), Auto: r.Intn(2) == 0})
	}
	for range r.Intn(6) {
		q := api.PortPlan{Kind: 1 + r.Intn(4), Size: one(r, 1, 4, 32), Depth: 1}
		if q.Kind == api.QueueIn || q.Kind == api.QueueOut {
			q.Depth = 1 + r.Intn(3)
		}
		if q.Kind == api.SampleIn {
			q.Refresh = one(r, 0, 1, 2, 255)
		}
		p.Ports = append(p.Ports, q)
	}
	for range r.Intn(4) {
		p.Sems = append(p.Sems, one(r, 0, 1, 255))
	}
	return p
}

// someState: any state in form of the plan, in lists with spare room, in which at least one process is Ready.
func someState(r *rand.Rand, p api.Plan) api.State {
	s := api.State{Id: p.Id, Frame: one(r, 0, 1, 2147483646, 2147483647), Epoch: one(r, 0, 1, 2147483646, 2147483647)}
	for range p.Events {
		s.Up = append(s.Up, r.Intn(2) == 0)
	}
	for range p.Sems {
		s.Sems = append(s.Sems, one(r, 0, 0, 1, 254, 255))
	}
	for _, q := range p.Ports {
		s.Ports = append(s.Ports, somePort(r, q))
	}
	for _, q := range p.Pages {
		page := api.Page{Rights: q.Rights, Dirty: r.Intn(2) == 0}
		r.Read(page.Data[:])
		s.Pages = append(s.Pages, page)
	}
	sure := r.Intn(len(p.Procs))
	for i := range p.Procs {
		q := someProc(r, p, s)
		if i == sure {
			q.State, q.Wait, q.Obj = api.Ready, 0, 0
		}
		s.Procs = append(s.Procs, q)
		if q.State == api.Ready {
			s.Ready = append(s.Ready, i)
		}
		if q.Wait == api.WaitSleep || q.Wait != 0 && r.Intn(2) == 0 {
			s.Timers = append(s.Timers, api.Timer{Proc: i, Due: one(r, 0, 1, 1, 2, 1009999, 1010000)})
		}
	}
	r.Shuffle(len(s.Ready), func(i, k int) { s.Ready[i], s.Ready[k] = s.Ready[k], s.Ready[i] })
	slices.SortFunc(s.Timers, func(a, b api.Timer) int { return (a.Due-b.Due)*100 + a.Proc - b.Proc })
	return roomy(s)
}

func somePort(r *rand.Rand, p api.PortPlan) api.Port {
	var q api.Port
	for range one(r, 0, p.Depth, r.Intn(p.Depth+1)) {
		q.Msgs = append(q.Msgs, someBytes(r, one(r, 0, p.Size, r.Intn(p.Size+1))))
	}
	if p.Kind == api.SampleIn && len(q.Msgs) > 0 {
		q.Age = one(r, 0, 1, 2, 254, 255)
	}
	return q
}

// someProc: a process that may stand in the state, whose things are all laid out.
func someProc(r *rand.Rand, p api.Plan, s api.State) api.Proc {
	q := api.Proc{Pc: one(r, r.Uint32(), 0, 4, 3), State: r.Intn(4), Prio: one(r, 0, 1, 2, 255)}
	for k := 1; k < 16; k++ {
		q.Regs[k] = r.Uint32()
	}
	if q.State != api.Waiting {
		return q
	}
	waits := [][2]int{{api.WaitSleep, 0}}
	for i, up := range s.Up {
		if !up {
			waits = append(waits, [2]int{api.WaitEvent, i})
		}
	}
	for i, count := range s.Sems {
		if count == 0 {
			waits = append(waits, [2]int{api.WaitSem, i})
		}
	}
	for i, x := range p.Ports {
		if held := len(s.Ports[i].Msgs); x.Kind == api.QueueIn && held == 0 || x.Kind == api.QueueOut && held == x.Depth {
			waits = append(waits, [2]int{api.WaitPort, i})
		}
	}
	w := one(r, waits...)
	q.Wait, q.Obj = w[0], w[1]
	return q
}
