package valid_test

import (
	"math/rand"
	"slices"
	"strings"
	"testing"

	"ferry/api"
	"ferry/plan"
	"ferry/valid"
)

// faultsOf: the rules that a state breaks, asked one by one of every thing and every pair of things.
func faultsOf(p api.Plan, s api.State) []int {
	var broken [18]bool
	must := func(n int, kept bool) { broken[n] = broken[n] || !kept }
	must(1, p.Id == s.Id)
	must(2, s.Frame == s.Frame&0x7FFFFFFF && s.Epoch == s.Epoch&0x7FFFFFFF)
	must(3, [5]int{len(p.Procs), len(p.Ports), len(p.Pages), p.Events, len(p.Sems)} == [5]int{len(s.Procs), len(s.Ports), len(s.Pages), len(s.Up), len(s.Sems)})
	for i, q := range s.Procs {
		askProc(must, p, q)
		askThing(must, p, s, q)
		askLists(must, s, i)
	}
	for _, i := range s.Ready {
		must(7, i >= 0 && i < len(s.Procs))
	}
	askTimers(must, s)
	for _, count := range s.Sems {
		must(10, count == count&0xFF)
	}
	askPorts(must, p, s)
	for i := 0; i < len(p.Pages) && i < len(s.Pages); i++ {
		must(13, p.Pages[i].Rights == s.Pages[i].Rights)
	}
	var numbers []int
	for n, is := range broken {
		if is {
			numbers = append(numbers, n)
		}
	}
	return numbers
}

func askProc(must func(int, bool), p api.Plan, q api.Proc) {
	must(4, q.Regs[0] == 0 && q.State&3 == q.State && q.Prio&255 == q.Prio && slices.Contains([]int{0, 1, 2, 3, 4}, q.Wait))
	must(5, q.Wait == 0 && q.State != 2 || q.Wait != 0 && q.State == 2)
	numbers := []int{0}
	switch q.Wait {
	case 2:
		numbers = upTo(p.Events)
	case 3:
		numbers = upTo(len(p.Sems))
	case 4:
		numbers = slices.DeleteFunc(upTo(len(p.Ports)), func(i int) bool { return p.Ports[i].Kind < 3 })
	}
	must(6, slices.Contains(numbers, q.Obj))
}

func upTo(n int) []int {
	var all []int
	for i := range n {
		all = append(all, i)
	}
	return all
}

// askThing: what a process waits for is such that it must wait.
func askThing(must func(int, bool), p api.Plan, s api.State, q api.Proc) {
	for i := range 100 {
		if q.Obj != i {
			continue
		}
		if q.Wait == 2 && i < p.Events && i < len(s.Up) {
			must(14, !s.Up[i])
		}
		if q.Wait == 3 && i < len(p.Sems) && i < len(s.Sems) {
			must(15, s.Sems[i] == 0)
		}
		if q.Wait == 4 && i < len(p.Ports) && i < len(s.Ports) {
			full := map[int]int{3: 0, 4: p.Ports[i].Depth}
			if n, is := full[p.Ports[i].Kind]; is {
				must(16, len(s.Ports[i].Msgs) == n)
			}
		}
	}
}

// askLists: how often process i stands in Ready and among the timers.
func askLists(must func(int, bool), s api.State, i int) {
	ready, timers := 0, 0
	for _, k := range s.Ready {
		if k == i {
			ready++
		}
	}
	for _, x := range s.Timers {
		if x.Proc == i {
			timers++
		}
	}
	if s.Procs[i].State == 1 {
		must(7, ready == 1)
	} else {
		must(7, ready == 0)
	}
	must(8, timers < 2)
	must(9, timers == 0 || s.Procs[i].State == 2)
	must(9, timers > 0 || s.Procs[i].Wait != 1)
}

func askTimers(must func(int, bool), s api.State) {
	for i, x := range s.Timers {
		must(8, x.Proc >= 0 && x.Proc < len(s.Procs) && x.Due >= 0 && x.Due <= 1010000)
		for k := range i {
			y := s.Timers[k]
			must(8, y.Due < x.Due || y.Due == x.Due && y.Proc < x.Proc)
		}
	}
}

func askPorts(must func(int, bool), p api.Plan, s api.State) {
	for i := 0; i < len(p.Ports) && i < len(s.Ports); i++ {
		x, q := p.Ports[i], s.Ports[i]
		must(11, len(q.Msgs) <= x.Depth)
		for _, m := range q.Msgs {
			must(11, len(m) <= x.Size)
		}
		must(12, q.Age == q.Age&255)
		must(12, q.Age == 0 || x.Kind == 1 && len(q.Msgs) != 0)
		must(17, x.Kind == 1 || x.Kind == 3 || len(q.Msgs) == 0)
	}
}

// turns: ways to put something of a state otherwise.
func turns(r *rand.Rand) []func(s *api.State) {
	far := func() int {
		return one(r, -1, -1<<63, 1<<63-1, 1<<31, 1<<31-1, 1<<32, 0, 1, 2, 3, 4, 5, 8, 255, 256, 1010000, 1010001)
	}
	return []func(s *api.State){
		func(s *api.State) { s.Id = far() },
		func(s *api.State) { s.Frame = far() },
		func(s *api.State) { s.Epoch = far() },
		func(s *api.State) { s.Procs = s.Procs[:r.Intn(len(s.Procs)+1)] },
		func(s *api.State) { s.Procs = append(s.Procs, make([]api.Proc, one(r, 1, 2, 9))...) },
		func(s *api.State) { pick(r, s.Procs).Regs[0] = uint32(far()) },
		func(s *api.State) { pick(r, s.Procs).State = one(r, far(), r.Intn(4)) },
		func(s *api.State) { pick(r, s.Procs).Prio = far() },
		func(s *api.State) { pick(r, s.Procs).Wait = one(r, far(), r.Intn(5)) },
		func(s *api.State) { pick(r, s.Procs).Obj = one(r, far(), r.Intn(4)) },
		func(s *api.State) { *pick(r, s.Ready) = one(r, far(), r.Intn(8)) },
		func(s *api.State) { s.Ready = append(s.Ready, one(r, far(), r.Intn(8))) },
		func(s *api.State) { s.Ready = s.Ready[:r.Intn(len(s.Ready)+1)] },
		func(s *api.State) { pick(r, s.Timers).Proc = one(r, far(), r.Intn(8)) },
		func(s *api.State) { pick(r, s.Timers).Due = one(r, far(), r.Intn(3)) },
		func(s *api.State) {
			s.Timers = append(s.Timers, api.Timer{Proc: r.Intn(8), Due: one(r, 0, 1, 1010000)})
		},
		func(s *api.State) { s.Timers = s.Timers[:r.Intn(len(s.Timers)+1)] },
		func(s *api.State) { *pick(r, s.Up) = r.Intn(2) == 0 },
		func(s *api.State) { s.Up = append(s.Up, true)[r.Intn(2):] },
		func(s *api.State) { *pick(r, s.Sems) = far() },
		func(s *api.State) { s.Sems = append(s.Sems, far())[r.Intn(2):] },
		func(s *api.State) { pick(r, s.Ports).Age = far() },
		func(s *api.State) { pick(r, s.Ports).Msgs = slices.Repeat([]string{"x"}, r.Intn(5)) },
		func(s *api.State) { pick(r, s.Ports).Msgs = []string{strings.Repeat("x", r.Intn(34))} },
		func(s *api.State) { s.Ports = append(s.Ports, api.Port{Age: far()})[r.Intn(2):] },
		func(s *api.State) { pick(r, s.Pages).Rights = far() },
		func(s *api.State) { s.Pages = append(s.Pages, api.Page{Rights: far()})[r.Intn(2):] },
	}
}

// pick: one of the list's; where there is none, one that belongs to nothing.
func pick[T any](r *rand.Rand, list []T) *T {
	if len(list) == 0 {
		return new(T)
	}
	return &list[r.Intn(len(list))]
}

// TestAgainstModel: states in form, and states that several things break at once.
func TestAgainstModel(t *testing.T) {
	r := rand.New(rand.NewSource(111))
	var seen [18]int
	for n := range 60000 {
		p := somePlan(r)
		s := someState(r, p)
		if n%5 == 0 && valid.Check(p, s) != nil {
			t.Fatalf("P11.1: a state in form breaks %v", valid.Faults(p, s))
		}
		for range n % 5 {
			one(r, turns(r)...)(&s)
		}
		if n%97 == 0 {
			p = somePlan(r)
		}
		wanted := faultsOf(p, s)
		for _, rule := range wanted {
			seen[rule]++
		}
		look, lookPlan := kept(t, s), keptPlan(t, p)
		wantFaults(t, "a random state", p, s, wanted...)
		look("Faults, Check and Rest")
		lookPlan("Faults, Check and Rest")
		if t.Failed() {
			t.Fatalf("plan %v\nstate %v", p, s)
		}
	}
	for rule := 1; rule <= 17; rule++ {
		if seen[rule] < 100 {
			t.Errorf("rule %d was broken only %d times", rule, seen[rule])
		}
	}
}

// TestBootRests: what boots of a plan in form is at rest.
func TestBootRests(t *testing.T) {
	r := rand.New(rand.NewSource(112))
	for range 5000 {
		p := somePlan(r)
		s, err := plan.Boot(p)
		wantBare(t, "plan.Boot", err, nil)
		if err := valid.Rest(p, s); err != nil || len(valid.Faults(p, s)) > 0 {
			t.Errorf("P11.3: Boot(%v) breaks %v", p, valid.Faults(p, s))
		}
	}
}
