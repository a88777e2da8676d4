package plan_test

import (
	"errors"
	"math/rand"
	"slices"
	"strings"
	"testing"

	"ferry/api"
)

// wantBare looks whether err is just that error (or none), without a place.
func wantBare(t *testing.T, what string, err, want error) {
	t.Helper()
	var at *api.At
	if api.Code(err) != api.Code(want) || errors.As(err, &at) {
		t.Errorf("%s: error %v at %d, want %v without a place", what, err, api.Place(err), want)
	}
}

// wantAt looks whether err is that error, at that place.
func wantAt(t *testing.T, what string, err, want error, place int) {
	t.Helper()
	var at *api.At
	if api.Code(err) != api.Code(want) || !errors.As(err, &at) || at.Place != place {
		t.Errorf("%s: error %v at %d, want %v at %d", what, err, api.Place(err), want, place)
	}
}

// want looks for the error at that place, or without one where the place is -1.
func want(t *testing.T, what string, err, wanted error, place int) {
	t.Helper()
	if place < 0 {
		wantBare(t, what, err, wanted)
	} else {
		wantAt(t, what, err, wanted, place)
	}
}

// example: the plan p of the chapter.
func example() api.Plan {
	return roomy(api.Plan{
		Id: 3, Mobile: true,
		Pages:  []api.PagePlan{{Rights: 5, Init: "ab"}, {Rights: 3}},
		Procs:  []api.ProcPlan{{Entry: 0, Prio: 7, Auto: true}, {Entry: 64, Prio: 9}},
		Ports:  []api.PortPlan{{Kind: api.SampleIn, Size: 4, Depth: 1, Refresh: 2}, {Kind: api.QueueOut, Size: 8, Depth: 2}},
		Events: 1, Sems: []int{2},
	})
}

// great: 32 pages, 8 processes, and so many ports of the greatest size.
func great(ports int) api.Plan {
	return api.Plan{
		Pages: make([]api.PagePlan, 32),
		Procs: make([]api.ProcPlan, 8),
		Ports: slices.Repeat([]api.PortPlan{{Kind: api.QueueIn, Size: 32, Depth: 8}}, ports),
	}
}

// longest: a plan that has as much as there may be of all, but for ports in, which would take it beyond its bound.
func longest() api.Plan {
	return api.Plan{
		Id: 2147483647, Mobile: true,
		Pages:  slices.Repeat([]api.PagePlan{{Rights: 7, Init: strings.Repeat("\xff", 64)}}, 32),
		Procs:  slices.Repeat([]api.ProcPlan{{Entry: 2044, Prio: 255, Auto: true}}, 8),
		Ports:  slices.Repeat([]api.PortPlan{{Kind: api.QueueOut, Size: 32, Depth: 8}}, 8),
		Events: 8, Sems: slices.Repeat([]int{255}, 8),
	}
}

// least: a plan that has as little as there may be.
func least() api.Plan {
	return api.Plan{Pages: make([]api.PagePlan, 1), Procs: make([]api.ProcPlan, 1)}
}

func whole[T any](list []T) []T { return list[:cap(list)] }

// withRoom: the list with three spare elements behind it.
func withRoom[T any](list []T, spare T) []T {
	fresh := append(make([]T, 0, len(list)+3), list...)
	for i := len(list); i < cap(fresh); i++ {
		whole(fresh)[i] = spare
	}
	return fresh
}

// roomy: the plan in lists with spare room.
func roomy(p api.Plan) api.Plan {
	p.Pages = withRoom(p.Pages, api.PagePlan{Rights: 1, Init: "spare"})
	p.Procs = withRoom(p.Procs, api.ProcPlan{Entry: 4, Prio: 4})
	p.Ports = withRoom(p.Ports, api.PortPlan{Kind: api.QueueIn, Size: 3, Depth: 3})
	p.Sems = withRoom(p.Sems, 43)
	return p
}

// kept gives a look whether the plan, spare room included, is what it was.
func kept(t *testing.T, p api.Plan) func(what string) {
	pages, procs, ports, sems := slices.Clone(whole(p.Pages)), slices.Clone(whole(p.Procs)), slices.Clone(whole(p.Ports)), slices.Clone(whole(p.Sems))
	return func(what string) {
		t.Helper()
		if !slices.Equal(whole(p.Pages), pages) || !slices.Equal(whole(p.Procs), procs) || !slices.Equal(whole(p.Ports), ports) || !slices.Equal(whole(p.Sems), sems) {
			t.Errorf("R2: %s: what was handed in has changed", what)
		}
	}
}

// spoilPlan overwrites an answer, spare room included: whoever shares memory with it shows it.
func spoilPlan(p api.Plan) {
	fill(p.Pages, api.PagePlan{Rights: 77})
	fill(p.Procs, api.ProcPlan{Entry: 77})
	fill(p.Ports, api.PortPlan{Kind: 77})
	fill(p.Sems, 77)
}

func fill[T any](list []T, x T) {
	for i := range whole(list) {
		whole(list)[i] = x
	}
}

// any of these.
func one[T any](r *rand.Rand, of ...T) T { return of[r.Intn(len(of))] }

// somePlan: any plan whose things are in form; only its bound may be too great.
func somePlan(r *rand.Rand) api.Plan {
	p := api.Plan{Id: one(r, 0, 1, 7, 1<<16, 1<<24+5, 2147483647), Mobile: r.Intn(2) == 0, Events: r.Intn(9)}
	for range one(r, 1, 2, 3, 31, 32) {
		p.Pages = append(p.Pages, api.PagePlan{Rights: r.Intn(8), Init: someInit(r)})
	}
	for range 1 + r.Intn(8) {
		p.Procs = append(p.Procs, api.ProcPlan{Entry: 4 * r.Intn(16*len(p.Pages)), Prio: one(r, 0, 1, 100, 254, 255), Auto: r.Intn(2) == 0})
	}
	for range r.Intn(9) {
		p.Ports = append(p.Ports, somePort(r))
	}
	for range r.Intn(9) {
		p.Sems = append(p.Sems, one(r, 0, 1, 128, 254, 255))
	}
	return roomy(p)
}

// inForm: any plan in form.
func inForm(r *rand.Rand) api.Plan {
	for {
		if p := somePlan(r); boundOf(p) <= 4096 {
			return p
		}
	}
}

func someInit(r *rand.Rand) string {
	b := make([]byte, one(r, 0, 0, 1, 5, 63, 64))
	r.Read(b)
	return string(b)
}

func somePort(r *rand.Rand) api.PortPlan {
	p := api.PortPlan{Kind: 1 + r.Intn(4), Size: one(r, 1, 2, 9, 31, 32), Depth: 1}
	switch p.Kind {
	case api.SampleIn:
		p.Refresh = one(r, 0, 1, 254, 255)
	case api.QueueIn, api.QueueOut:
		p.Depth = 1 + r.Intn(8)
	}
	return p
}
