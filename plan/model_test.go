package plan_test

import (
	"math/rand"
	"strings"
	"testing"

	"ferry/api"
	"ferry/plan"
)

// boundOf: record by record, as an image lays a state down that has the most of all.
func boundOf(p api.Plan) int {
	const head, sum, rec = 20, 4, 3
	n := head + sum
	n += rec + 4 + 4 // Frame and Epoch
	n += rec + 4 + 4 // a delta's base
	for range p.Procs {
		n += rec + 60 + 4 + 4
	}
	n += rec                  // nobody is ready,
	n += rec + 5*len(p.Procs) // and so all may have timers
	n += rec + p.Events       // events
	n += rec + len(p.Sems)    // semaphores
	for _, q := range p.Ports {
		n += rec + 2 + held(q)
	}
	for range p.Pages {
		n += rec + 1 + 64
	}
	return n
}

// held: the bytes of as many and as long messages as there may be at rest.
func held(p api.PortPlan) int {
	n := 0
	for range p.Depth {
		if p.Kind == api.SampleIn || p.Kind == api.QueueIn {
			n += 1 + p.Size
		}
	}
	return n
}

// verdict is what Check is to answer.
type verdict struct {
	err   error
	place int
}

// verdicts: all rules that a plan breaks, in the order of the table.
func verdicts(p api.Plan) []verdict {
	var all []verdict
	rule := func(kept bool, err error, place int) {
		if !kept {
			all = append(all, verdict{err, place})
		}
	}
	rule(p.Id >= 0 && p.Id < 1<<31, api.ErrRange, -1)
	rule(len(p.Pages) > 0 && len(p.Pages) <= 32, api.ErrSize, -1)
	for i, q := range p.Pages {
		rule(q.Rights&7 == q.Rights, api.ErrRange, i)
		rule(len(q.Init) <= 64, api.ErrLength, i)
	}
	rule(len(p.Procs) > 0 && len(p.Procs) <= 8, api.ErrSize, -1)
	for i, q := range p.Procs {
		rule(q.Entry&3 == 0 && q.Entry >= 0 && q.Entry/64 < len(p.Pages), api.ErrRange, i)
		rule(q.Prio&255 == q.Prio, api.ErrRange, i)
	}
	rule(len(p.Ports) <= 8, api.ErrSize, -1)
	for i, q := range p.Ports {
		err := portVerdict(q)
		rule(err == nil, err, i)
	}
	rule(p.Events >= 0 && p.Events <= 8, api.ErrRange, -1)
	rule(len(p.Sems) <= 8, api.ErrSize, -1)
	for i, count := range p.Sems {
		rule(count&255 == count, api.ErrRange, i)
	}
	if len(all) == 0 {
		rule(boundOf(p) <= 4096, api.ErrSize, -1)
	}
	return all
}

func portVerdict(p api.PortPlan) error {
	depth, refresh := map[int]int{1: 1, 2: 1, 3: 8, 4: 8}[p.Kind], map[int]int{1: 255}[p.Kind]
	switch {
	case depth == 0:
		return api.ErrKind
	case p.Size < 1 || p.Size > 32:
		return api.ErrSize
	case p.Depth < 1 || p.Depth > depth || p.Refresh < 0 || p.Refresh > refresh:
		return api.ErrRange
	}
	return nil
}

// wrongs: ways to break a plan, each at a place of its own choice.
func wrongs(r *rand.Rand) []func(p *api.Plan) {
	far := func() int {
		return one(r, -1, -4, -64, -1<<63, 1<<63-1, 1<<31, 1<<32, 1<<32+4, 256, 8, 33)
	}
	return []func(p *api.Plan){
		func(p *api.Plan) { p.Id = far() },
		func(p *api.Plan) { p.Pages = nil },
		func(p *api.Plan) { p.Pages = make([]api.PagePlan, one(r, 33, 34, 100)) },
		func(p *api.Plan) { pick(r, p.Pages).Rights = far() },
		func(p *api.Plan) { pick(r, p.Pages).Init = strings.Repeat("x", one(r, 65, 66, 256, 70000)) },
		func(p *api.Plan) { p.Procs = nil },
		func(p *api.Plan) { p.Procs = make([]api.ProcPlan, one(r, 9, 10, 300)) },
		func(p *api.Plan) { pick(r, p.Procs).Entry = far() },
		func(p *api.Plan) { pick(r, p.Procs).Entry += r.Intn(4) },
		func(p *api.Plan) { pick(r, p.Procs).Entry = 64*len(p.Pages) - 4 + 4*r.Intn(2) },
		func(p *api.Plan) { pick(r, p.Procs).Prio = far() },
		func(p *api.Plan) { p.Ports = append(p.Ports, make([]api.PortPlan, 9)...) },
		func(p *api.Plan) { pick(r, p.Ports).Kind = one(r, far(), 0, 5, 1, 2, 3, 4) },
		func(p *api.Plan) { pick(r, p.Ports).Size = one(r, far(), 0) },
		func(p *api.Plan) { pick(r, p.Ports).Depth = one(r, far(), 0, 9) },
		func(p *api.Plan) { pick(r, p.Ports).Refresh = far() },
		func(p *api.Plan) { p.Events = one(r, far(), 9) },
		func(p *api.Plan) { p.Sems = append(p.Sems, make([]int, 9)...) },
		func(p *api.Plan) { *pick(r, p.Sems) = far() },
	}
}

// pick: one of the list's; where there is none, one that belongs to nothing.
func pick[T any](r *rand.Rand, list []T) *T {
	if len(list) == 0 {
		return new(T)
	}
	return &list[r.Intn(len(list))]
}

// TestAgainstModel: plans in form and plans with some faults at once.
func TestAgainstModel(t *testing.T) {
	r := rand.New(rand.NewSource(101))
	for n := range 30000 {
		p := somePlan(r)
		for range n % 4 {
			one(r, wrongs(r)...)(&p)
		}
		look := kept(t, p)
		wanted := append(verdicts(p), verdict{nil, -1})[0]
		want(t, "P10.1: Check", plan.Check(p), wanted.err, wanted.place)
		look("Check")
		bound, err := plan.Bound(p)
		span, spanErr := plan.Span(p)
		if wanted.err == nil {
			wantBare(t, "P10.2: Bound", err, nil)
			wantBare(t, "P10.2: Span", spanErr, nil)
			if bound != boundOf(p) || span != 64*len(p.Pages) {
				t.Errorf("P10.2: Bound = %d, want %d; Span = %d", bound, boundOf(p), span)
			}
		} else {
			wantBare(t, "P10.2: Bound", err, api.ErrPlan)
			wantBare(t, "P10.2: Span", spanErr, api.ErrPlan)
			if bound != 0 || span != 0 {
				t.Errorf("F1: beside an error Bound = %d, Span = %d", bound, span)
			}
		}
		look("Bound and Span")
	}
}
