package plan_test

import (
	"math"
	"math/rand"
	"slices"
	"strings"
	"testing"

	"ferry/api"
	"ferry/plan"
)

// checks: each rule at its edges, and what Check answers.
func checks() []struct {
	turn  func(p *api.Plan)
	err   error
	place int
} {
	return []struct {
		turn  func(p *api.Plan)
		err   error
		place int
	}{
		{func(p *api.Plan) {}, nil, -1},
		{func(p *api.Plan) { p.Mobile = false }, nil, -1},
		{func(p *api.Plan) { p.Id = 0 }, nil, -1},
		{func(p *api.Plan) { p.Id = 2147483647 }, nil, -1},
		{func(p *api.Plan) { p.Id = -1 }, api.ErrRange, -1},
		{func(p *api.Plan) { p.Id = 2147483648 }, api.ErrRange, -1},
		{func(p *api.Plan) { p.Id = math.MinInt }, api.ErrRange, -1},
		{func(p *api.Plan) { p.Pages = nil }, api.ErrSize, -1},
		{func(p *api.Plan) { p.Pages = []api.PagePlan{} }, api.ErrSize, -1},
		{func(p *api.Plan) { p.Pages = make([]api.PagePlan, 32) }, nil, -1},
		{func(p *api.Plan) { p.Pages = make([]api.PagePlan, 33) }, api.ErrSize, -1},
		{func(p *api.Plan) { p.Id, p.Pages = -1, make([]api.PagePlan, 33) }, api.ErrRange, -1},
		{func(p *api.Plan) { p.Pages[0].Rights = 0 }, nil, -1},
		{func(p *api.Plan) { p.Pages[0].Rights = 7 }, nil, -1},
		{func(p *api.Plan) { p.Pages[0].Rights = 8 }, api.ErrRange, 0},
		{func(p *api.Plan) { p.Pages[1].Rights = -1 }, api.ErrRange, 1},
		{func(p *api.Plan) { p.Pages[1].Init = strings.Repeat("x", 64) }, nil, -1},
		{func(p *api.Plan) { p.Pages[1].Init = strings.Repeat("x", 65) }, api.ErrLength, 1},
		{func(p *api.Plan) { p.Pages[1] = api.PagePlan{Rights: 8, Init: strings.Repeat("x", 65)} }, api.ErrRange, 1},
		{func(p *api.Plan) { p.Pages[0].Init, p.Pages[1].Rights = strings.Repeat("x", 65), 8 }, api.ErrLength, 0},
		{func(p *api.Plan) { p.Procs = nil }, api.ErrSize, -1},
		{func(p *api.Plan) { p.Procs = make([]api.ProcPlan, 8) }, nil, -1},
		{func(p *api.Plan) { p.Procs = make([]api.ProcPlan, 9) }, api.ErrSize, -1},
		{func(p *api.Plan) { p.Procs[1].Entry = 66 }, api.ErrRange, 1},
		{func(p *api.Plan) { p.Procs[1].Entry = 65 }, api.ErrRange, 1},
		{func(p *api.Plan) { p.Procs[1].Entry = 124 }, nil, -1},
		{func(p *api.Plan) { p.Procs[1].Entry = 128 }, api.ErrRange, 1},
		{func(p *api.Plan) { p.Procs[1].Entry = -4 }, api.ErrRange, 1},
		{func(p *api.Plan) { p.Procs[0].Entry = 1 << 32 }, api.ErrRange, 0},
		{func(p *api.Plan) { p.Procs[0].Prio = 0 }, nil, -1},
		{func(p *api.Plan) { p.Procs[0].Prio = 255 }, nil, -1},
		{func(p *api.Plan) { p.Procs[0].Prio = 256 }, api.ErrRange, 0},
		{func(p *api.Plan) { p.Procs[0].Prio = -1 }, api.ErrRange, 0},
		{func(p *api.Plan) { p.Ports = nil }, nil, -1},
		{func(p *api.Plan) { p.Ports = slices.Repeat(p.Ports[:1], 8) }, nil, -1},
		{func(p *api.Plan) { p.Ports = slices.Repeat(p.Ports[:1], 9) }, api.ErrSize, -1},
		{func(p *api.Plan) { p.Ports[1].Kind = 5 }, api.ErrKind, 1},
		{func(p *api.Plan) { p.Ports[1].Size = 33 }, api.ErrSize, 1},
		{func(p *api.Plan) { p.Ports[0].Depth = 2 }, api.ErrRange, 0},
		{func(p *api.Plan) { p.Ports[1].Refresh = 1 }, api.ErrRange, 1},
		{func(p *api.Plan) { p.Ports[0].Refresh, p.Ports[1].Kind = 256, 0 }, api.ErrRange, 0},
		{func(p *api.Plan) { p.Events = 0 }, nil, -1},
		{func(p *api.Plan) { p.Events = 8 }, nil, -1},
		{func(p *api.Plan) { p.Events = 9 }, api.ErrRange, -1},
		{func(p *api.Plan) { p.Events = -1 }, api.ErrRange, -1},
		{func(p *api.Plan) { p.Events, p.Sems = -1, make([]int, 9) }, api.ErrRange, -1},
		{func(p *api.Plan) { p.Sems = nil }, nil, -1},
		{func(p *api.Plan) { p.Sems = make([]int, 8) }, nil, -1},
		{func(p *api.Plan) { p.Sems = make([]int, 9) }, api.ErrSize, -1},
		{func(p *api.Plan) { p.Sems = []int{0, 255} }, nil, -1},
		{func(p *api.Plan) { p.Sems = []int{2, 256} }, api.ErrRange, 1},
		{func(p *api.Plan) { p.Sems = []int{2, 3, -1} }, api.ErrRange, 2},
		{func(p *api.Plan) { *p = great(8) }, api.ErrSize, -1},
		{func(p *api.Plan) { *p = great(5) }, api.ErrSize, -1},
		{func(p *api.Plan) { *p = great(4) }, nil, -1},
		{func(p *api.Plan) { *p = longest() }, nil, -1},
		{func(p *api.Plan) { *p = least() }, nil, -1},
		{func(p *api.Plan) { *p = api.Plan{} }, api.ErrSize, -1},
	}
}

func TestCheck(t *testing.T) {
	for i, c := range checks() {
		p := example()
		c.turn(&p)
		err := plan.Check(p)
		want(t, "P10.1: Check", err, c.err, c.place)
		if t.Failed() {
			t.Fatalf("P10.1: case %d: %v", i, p)
		}
	}
}

// TestNotInForm: every call but Check, Read and Same answers ErrPlan alone.
func TestNotInForm(t *testing.T) {
	for _, c := range checks() {
		if c.err == nil {
			continue
		}
		p := example()
		c.turn(&p)
		bound, err := plan.Bound(p)
		wantBare(t, "P10.2: Bound", err, api.ErrPlan)
		span, err := plan.Span(p)
		wantBare(t, "P10.2: Span", err, api.ErrPlan)
		s, err := plan.Boot(p)
		wantBare(t, "P10.3: Boot", err, api.ErrPlan)
		b, err := plan.Bytes(p)
		wantBare(t, "P10.4: Bytes", err, api.ErrPlan)
		sum, err := plan.Sum(p)
		wantBare(t, "P10.4: Sum", err, api.ErrPlan)
		if bound != 0 || span != 0 || !sameState(s, api.State{}) || len(b) != 0 || sum != 0 {
			t.Errorf("F1: beside an error: %d, %d, %v, %v, %d", bound, span, s, b, sum)
		}
	}
}

// TestAtTheBound: a plan whose bound is just MaxImage, and one with a byte more.
func TestAtTheBound(t *testing.T) {
	p := great(4)
	p.Ports = append(p.Ports, api.PortPlan{Kind: api.QueueIn, Size: 20, Depth: 8})
	p.Events, p.Sems = 4, make([]int, 1)
	bound, err := plan.Bound(p)
	if bound != 4096 || err != nil || plan.Check(p) != nil {
		t.Fatalf("P10.2: Bound = %d, %v; Check: %v", bound, err, plan.Check(p))
	}
	p.Events++
	wantBare(t, "P10.1: Check of a bound of 4097", plan.Check(p), api.ErrSize)
	p.Sems[0] = 256
	wantAt(t, "P10.1: Check of a bound of 4097 and a count of 256", plan.Check(p), api.ErrRange, 0)
}

func TestBoundAndSpan(t *testing.T) {
	for _, c := range []struct {
		p           api.Plan
		bound, span int
	}{
		{example(), 363, 128}, {great(4), 3918, 2048}, {least(), 202, 64}, {longest(), 58 + 608 + 2176 + 40 + 16, 2048},
	} {
		bound, err := plan.Bound(c.p)
		wantBare(t, "P10.2: Bound", err, nil)
		span, err := plan.Span(c.p)
		wantBare(t, "P10.2: Span", err, nil)
		if bound != c.bound || span != c.span {
			t.Errorf("P10.2: Bound = %d, Span = %d, want %d, %d", bound, span, c.bound, c.span)
		}
	}
}

func sameState(a, b api.State) bool {
	same := func(a, b api.Port) bool { return a.Age == b.Age && slices.Equal(a.Msgs, b.Msgs) }
	return a.Id == b.Id && a.Frame == b.Frame && a.Epoch == b.Epoch && slices.Equal(a.Procs, b.Procs) &&
		slices.Equal(a.Ready, b.Ready) && slices.Equal(a.Timers, b.Timers) && slices.Equal(a.Up, b.Up) &&
		slices.Equal(a.Sems, b.Sems) && slices.EqualFunc(a.Ports, b.Ports, same) && slices.Equal(a.Pages, b.Pages)
}

func TestBoot(t *testing.T) {
	s, err := plan.Boot(example())
	wantBare(t, "P10.3: Boot", err, nil)
	if !sameState(s, api.State{
		Id:    3,
		Procs: []api.Proc{{State: api.Ready, Prio: 7}, {Pc: 64, State: api.Dormant, Prio: 9}},
		Ready: []int{0},
		Up:    []bool{false},
		Sems:  []int{2},
		Ports: []api.Port{{}, {}},
		Pages: []api.Page{{Rights: 5, Data: [64]byte{0x61, 0x62}}, {Rights: 3}},
	}) {
		t.Errorf("P10.3: Boot = %v", s)
	}
	s, err = plan.Boot(least())
	wantBare(t, "P10.3: Boot", err, nil)
	if !sameState(s, api.State{Procs: make([]api.Proc, 1), Pages: make([]api.Page, 1)}) {
		t.Errorf("P10.3: Boot = %v", s)
	}
}

// booted: the state that a plan in form boots, field by field.
func booted(p api.Plan) api.State {
	s := api.State{Id: p.Id, Up: make([]bool, p.Events), Sems: append([]int{}, p.Sems...), Ports: make([]api.Port, len(p.Ports))}
	s.Procs = make([]api.Proc, len(p.Procs))
	for i := range p.Procs {
		s.Procs[i].Pc, s.Procs[i].Prio = uint32(p.Procs[i].Entry), p.Procs[i].Prio
		if p.Procs[i].Auto {
			s.Procs[i].State = 1
			s.Ready = append(s.Ready, i)
		}
	}
	s.Pages = make([]api.Page, len(p.Pages))
	for i := range p.Pages {
		s.Pages[i].Rights = p.Pages[i].Rights
		for k := range len(p.Pages[i].Init) {
			s.Pages[i].Data[k] = p.Pages[i].Init[k]
		}
	}
	return s
}

// TestBootAgainstModel: of any plan; no answer shares memory with the plan or with another answer.
func TestBootAgainstModel(t *testing.T) {
	r := rand.New(rand.NewSource(102))
	for range 3000 {
		p := inForm(r)
		look := kept(t, p)
		first, err := plan.Boot(p)
		wantBare(t, "P10.3: Boot", err, nil)
		second, _ := plan.Boot(p)
		if !sameState(first, booted(p)) {
			t.Fatalf("P10.3: Boot(%v) = %v", p, first)
		}
		fill(first.Procs, api.Proc{Pc: 77})
		fill(first.Ready, 77)
		fill(first.Up, true)
		fill(first.Sems, 77)
		fill(first.Ports, api.Port{Age: 77})
		fill(first.Pages, api.Page{Rights: 77})
		look("Boot")
		if !sameState(second, booted(p)) {
			t.Errorf("R2: two answers of Boot share memory")
		}
	}
}

func TestSame(t *testing.T) {
	turns := []func(p *api.Plan){
		func(p *api.Plan) { p.Id = 4 },
		func(p *api.Plan) { p.Mobile = false },
		func(p *api.Plan) { p.Pages = p.Pages[:1] },
		func(p *api.Plan) { p.Pages[1].Rights = 2 },
		func(p *api.Plan) { p.Pages[1].Init = "\x00" },
		func(p *api.Plan) { p.Pages[0].Init = "aB" },
		func(p *api.Plan) { p.Pages = append(p.Pages, api.PagePlan{}) },
		func(p *api.Plan) { p.Procs = p.Procs[1:] },
		func(p *api.Plan) { p.Procs[0].Entry = 4 },
		func(p *api.Plan) { p.Procs[1].Prio = 8 },
		func(p *api.Plan) { p.Procs[1].Auto = true },
		func(p *api.Plan) { p.Ports = nil },
		func(p *api.Plan) { p.Ports[0].Kind = 9 },
		func(p *api.Plan) { p.Ports[0].Size = 5 },
		func(p *api.Plan) { p.Ports[1].Depth = 3 },
		func(p *api.Plan) { p.Ports[0].Refresh = 1 },
		func(p *api.Plan) { p.Ports[0], p.Ports[1] = p.Ports[1], p.Ports[0] },
		func(p *api.Plan) { p.Events = -1 },
		func(p *api.Plan) { p.Sems[0] = 3 },
		func(p *api.Plan) { p.Sems = append(p.Sems, 0) },
		func(p *api.Plan) { p.Sems = nil },
	}
	for i, turn := range turns {
		a, b, c := example(), example(), example()
		turn(&b)
		turn(&c)
		if plan.Same(a, b) || plan.Same(b, a) {
			t.Errorf("P10.4: case %d: Same of unlike plans", i)
		}
		if !plan.Same(b, c) {
			t.Errorf("P10.4: case %d: Same(%v, %v) is false", i, b, c)
		}
	}
	empty := api.Plan{Pages: []api.PagePlan{}, Procs: []api.ProcPlan{}, Ports: []api.PortPlan{}, Sems: []int{}}
	if !plan.Same(empty, api.Plan{}) || !plan.Same(example(), example()) {
		t.Errorf("R4: nil and empty lists are one")
	}
}
