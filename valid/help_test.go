package valid_test

import (
	"errors"
	"math/rand"
	"slices"
	"strings"
	"testing"

	"ferry/api"
	"ferry/plan"
	"ferry/valid"
)

// wantBare looks whether err is just that error (or none), without a place.
func wantBare(t *testing.T, what string, err, want error) {
	t.Helper()
	var at *api.At
	if api.Code(err) != api.Code(want) || errors.As(err, &at) {
		t.Errorf("%s: error %v at %d, want %v without a place", what, err, api.Place(err), want)
	}
}

// wantAt looks whether err is that error, at that place.
func wantAt(t *testing.T, what string, err, want error, place int) {
	t.Helper()
	var at *api.At
	if api.Code(err) != api.Code(want) || !errors.As(err, &at) || at.Place != place {
		t.Errorf("%s: error %v at %d, want %v at %d", what, err, api.Place(err), want, place)
	}
}

// wantFaults looks whether these rules are broken and no others, by all three calls.
func wantFaults(t *testing.T, what string, p api.Plan, s api.State, want ...int) {
	t.Helper()
	if got := valid.Faults(p, s); !slices.Equal(got, want) {
		t.Errorf("P11.1: %s: Faults = %v, want %v", what, got, want)
	}
	form := slices.DeleteFunc(slices.Clone(want), func(n int) bool { return n == 17 })
	wantFirst(t, "P11.1: "+what+": Check", valid.Check(p, s), form)
	wantFirst(t, "P11.1: "+what+": Rest", valid.Rest(p, s), want)
}

func wantFirst(t *testing.T, what string, err error, broken []int) {
	t.Helper()
	if len(broken) == 0 {
		wantBare(t, what, err, nil)
	} else {
		wantAt(t, what, err, api.ErrState, broken[0])
	}
}

// example: the plan P of the chapter, and its boot state.
func example(t *testing.T) (api.Plan, api.State) {
	t.Helper()
	p := api.Plan{
		Id:    7,
		Pages: []api.PagePlan{{Rights: 7}}, Procs: []api.ProcPlan{{Auto: true}, {Auto: true}},
		Ports: []api.PortPlan{{Kind: api.QueueIn, Size: 4, Depth: 2}}, Events: 2, Sems: []int{0},
	}
	return p, boot(t, p)
}

func boot(t *testing.T, p api.Plan) api.State {
	t.Helper()
	s, err := plan.Boot(p)
	if err != nil {
		t.Fatalf("plan.Boot: %v", err)
	}
	return s
}

// rich: a plan with one port of each kind, and more of all than the example's.
func rich() api.Plan {
	return api.Plan{
		Id:    9,
		Pages: []api.PagePlan{{Rights: 5, Init: "ab"}, {Rights: 3}}, Procs: make([]api.ProcPlan, 4),
		Ports: []api.PortPlan{
			{Kind: api.SampleIn, Size: 4, Depth: 1, Refresh: 2}, {Kind: api.SampleOut, Size: 4, Depth: 1},
			{Kind: api.QueueIn, Size: 4, Depth: 2}, {Kind: api.QueueOut, Size: 4, Depth: 2},
		},
		Events: 3, Sems: []int{0, 5},
	}
}

func whole[T any](list []T) []T { return list[:cap(list)] }

// withRoom: the list with three spare elements behind it.
func withRoom[T any](list []T, spare T) []T {
	fresh := append(make([]T, 0, len(list)+3), list...)
	for i := len(list); i < cap(fresh); i++ {
		whole(fresh)[i] = spare
	}
	return fresh
}

// roomy: the state in lists with spare room.
func roomy(s api.State) api.State {
	s.Procs = withRoom(s.Procs, api.Proc{Pc: 4321})
	s.Ready = withRoom(s.Ready, 5)
	s.Timers = withRoom(s.Timers, api.Timer{Proc: 5, Due: 4321})
	s.Up = withRoom(s.Up, true)
	s.Sems = withRoom(s.Sems, 4321)
	s.Ports = withRoom(s.Ports, api.Port{Age: 4321})
	for i := range s.Ports {
		s.Ports[i].Msgs = withRoom(s.Ports[i].Msgs, "spare")
	}
	s.Pages = withRoom(s.Pages, api.Page{Rights: 4321})
	return s
}

// entire: the state with its spare room, as new memory.
func entire(s api.State) api.State {
	s.Procs, s.Ready, s.Timers = slices.Clone(whole(s.Procs)), slices.Clone(whole(s.Ready)), slices.Clone(whole(s.Timers))
	s.Up, s.Sems, s.Pages = slices.Clone(whole(s.Up)), slices.Clone(whole(s.Sems)), slices.Clone(whole(s.Pages))
	s.Ports = slices.Clone(whole(s.Ports))
	for i := range s.Ports {
		s.Ports[i].Msgs = slices.Clone(whole(s.Ports[i].Msgs))
	}
	return s
}

// same: field by field, of states that the tests hold against one another.
func same(a, b api.State) bool {
	ports := func(a, b api.Port) bool { return a.Age == b.Age && slices.Equal(a.Msgs, b.Msgs) }
	return a.Id == b.Id && a.Frame == b.Frame && a.Epoch == b.Epoch && slices.Equal(a.Procs, b.Procs) &&
		slices.Equal(a.Ready, b.Ready) && slices.Equal(a.Timers, b.Timers) && slices.Equal(a.Up, b.Up) &&
		slices.Equal(a.Sems, b.Sems) && slices.EqualFunc(a.Ports, b.Ports, ports) && slices.Equal(a.Pages, b.Pages)
}

// kept gives a look whether the state, spare room included, is what it was.
func kept(t *testing.T, s api.State) func(what string) {
	was := entire(s)
	return func(what string) {
		t.Helper()
		if !same(entire(s), was) {
			t.Errorf("P11.4: %s: what was handed in has changed", what)
		}
	}
}

// keptPlan: the same, of a plan.
func keptPlan(t *testing.T, p api.Plan) func(what string) {
	entire := func() api.Plan {
		return api.Plan{Pages: whole(p.Pages), Procs: whole(p.Procs), Ports: whole(p.Ports), Sems: whole(p.Sems)}
	}
	was := entire()
	was.Pages, was.Procs, was.Ports, was.Sems = slices.Clone(was.Pages), slices.Clone(was.Procs), slices.Clone(was.Ports), slices.Clone(was.Sems)
	return func(what string) {
		t.Helper()
		if !plan.Same(entire(), was) {
			t.Errorf("P11.4: %s: the plan that was handed in has changed", what)
		}
	}
}

func fill[T any](list []T, x T) {
	for i := range whole(list) {
		whole(list)[i] = x
	}
}

func one[T any](r *rand.Rand, of ...T) T { return of[r.Intn(len(of))] }

// somePlan: any plan in form, small enough that much of it comes together.
func somePlan(r *rand.Rand) api.Plan {
	p := api.Plan{Id: r.Intn(3), Events: r.Intn(4), Mobile: r.Intn(2) == 0}
	for range 1 + r.Intn(3) {
		p.Pages = append(p.Pages, api.PagePlan{Rights: r.Intn(8), Init: strings.Repeat("i", r.Intn(65))})
	}
	for range 1 + r.Intn(8) {
		p.Procs = append(p.Procs, api.ProcPlan{Entry: 4 * r.Intn(16), Prio: one(r, 0, 1, 255), Auto: r.Intn(2) == 0})
	}
	for range r.Intn(6) {
		q := api.PortPlan{Kind: 1 + r.Intn(4), Size: one(r, 1, 4, 32), Depth: 1}
		if q.Kind == api.QueueIn || q.Kind == api.QueueOut {
			q.Depth = 1 + r.Intn(3)
		}
		p.Ports = append(p.Ports, q)
	}
	for range r.Intn(4) {
		p.Sems = append(p.Sems, one(r, 0, 1, 255))
	}
	return p
}

// someState: any state in form of the plan, in lists with spare room.
func someState(r *rand.Rand, p api.Plan) api.State {
	s := api.State{Id: p.Id, Frame: one(r, 0, 1, 2147483646, 2147483647), Epoch: one(r, 0, 1, 2147483646, 2147483647)}
	for range p.Events {
		s.Up = append(s.Up, r.Intn(2) == 0)
	}
	for range p.Sems {
		s.Sems = append(s.Sems, one(r, 0, 0, 1, 254, 255))
	}
	for _, q := range p.Ports {
		s.Ports = append(s.Ports, somePort(r, q))
	}
	for _, q := range p.Pages {
		page := api.Page{Rights: q.Rights, Dirty: r.Intn(2) == 0}
		r.Read(page.Data[:])
		s.Pages = append(s.Pages, page)
	}
	for i := range p.Procs {
		q := someProc(r, p, s)
		s.Procs = append(s.Procs, q)
		if q.State == api.Ready {
			s.Ready = append(s.Ready, i)
		}
		if q.Wait == api.WaitSleep || q.Wait != 0 && r.Intn(2) == 0 {
			s.Timers = append(s.Timers, api.Timer{Proc: i, Due: one(r, 0, 1, 1, 2, 1009999, 1010000)})
		}
	}
	r.Shuffle(len(s.Ready), func(i, k int) { s.Ready[i], s.Ready[k] = s.Ready[k], s.Ready[i] })
	slices.SortFunc(s.Timers, func(a, b api.Timer) int { return (a.Due-b.Due)*100 + a.Proc - b.Proc })
	return roomy(s)
}

func somePort(r *rand.Rand, p api.PortPlan) api.Port {
	var q api.Port
	for range one(r, 0, p.Depth, r.Intn(p.Depth+1)) {
		q.Msgs = append(q.Msgs, strings.Repeat("m", one(r, 0, p.Size, r.Intn(p.Size+1))))
	}
	if p.Kind == api.SampleIn && len(q.Msgs) > 0 {
		q.Age = one(r, 0, 1, 254, 255)
	}
	return q
}

// someProc: a process that may stand in the state, whose things are all laid out.
func someProc(r *rand.Rand, p api.Plan, s api.State) api.Proc {
	q := api.Proc{Pc: r.Uint32(), State: r.Intn(4), Prio: one(r, 0, 1, 2, 255)}
	for k := 1; k < 16; k++ {
		q.Regs[k] = r.Uint32()
	}
	if q.State != api.Waiting {
		return q
	}
	waits := [][2]int{{api.WaitSleep, 0}}
	for i, up := range s.Up {
		if !up {
			waits = append(waits, [2]int{api.WaitEvent, i})
		}
	}
	for i, count := range s.Sems {
		if count == 0 {
			waits = append(waits, [2]int{api.WaitSem, i})
		}
	}
	for i, x := range p.Ports {
		if held := len(s.Ports[i].Msgs); x.Kind == api.QueueIn && held == 0 || x.Kind == api.QueueOut && held == x.Depth {
			waits = append(waits, [2]int{api.WaitPort, i})
		}
	}
	w := one(r, waits...)
	q.Wait, q.Obj = w[0], w[1]
	return q
}
