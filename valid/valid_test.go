package valid_test

import (
	"math"
	"slices"
	"testing"

	"ferry/api"
	"ferry/valid"
)

// change is one way to put a state otherwise, and the rules that it then breaks.
type change struct {
	what string
	turn func(s *api.State)
	want []int
}

func wantChanges(t *testing.T, p api.Plan, s api.State, changes []change) {
	t.Helper()
	for _, c := range changes {
		mine := roomy(s)
		c.turn(&mine)
		look := kept(t, mine)
		wantFaults(t, c.what, p, mine, c.want...)
		look(c.what)
	}
}

// waiting makes process 1 of the example wait, out of Ready.
func waiting(wait, obj int) func(s *api.State) {
	return func(s *api.State) {
		s.Procs[1].State, s.Procs[1].Wait, s.Procs[1].Obj = api.Waiting, wait, obj
		s.Ready = []int{0}
	}
}

// and: one behind the other.
func and(turns ...func(s *api.State)) func(s *api.State) {
	return func(s *api.State) {
		for _, turn := range turns {
			turn(s)
		}
	}
}

func timers(list ...api.Timer) func(s *api.State) { return func(s *api.State) { s.Timers = list } }

func readies(list ...int) func(s *api.State) { return func(s *api.State) { s.Ready = list } }

func holds(port int, msgs ...string) func(s *api.State) {
	return func(s *api.State) { s.Ports[port].Msgs = msgs }
}

func TestExamples(t *testing.T) {
	p, s := example(t)
	wantChanges(t, p, s, []change{
		{"the boot state", func(s *api.State) {}, nil},
		{"Id 8", func(s *api.State) { s.Id = 8 }, []int{1}},
		{"Frame and Epoch", func(s *api.State) { s.Frame, s.Epoch = -1, api.MaxEpoch+1 }, []int{2}},
		{"a third process", func(s *api.State) { s.Procs = append(s.Procs, api.Proc{State: api.Ready}) }, []int{3, 7}},
		{"an event", waiting(api.WaitEvent, 1), nil},
		{"an event that is up", and(waiting(api.WaitEvent, 1), func(s *api.State) { s.Up[1] = true }), []int{14}},
		{"no event", waiting(api.WaitEvent, 2), []int{6}},
		{"no event, in Ready", and(waiting(api.WaitEvent, 2), readies(0, 1)), []int{6, 7}},
		{"a sleeper without a timer", waiting(api.WaitSleep, 0), []int{9}},
		{"a sleeper", and(waiting(api.WaitSleep, 0), timers(api.Timer{Proc: 1, Due: 5})), nil},
		{"two timers", and(waiting(api.WaitSleep, 0), timers(api.Timer{Proc: 1, Due: 5}, api.Timer{Proc: 0, Due: 5})), []int{8, 9}},
		{"waits for nothing", waiting(api.WaitNone, 0), []int{5}},
		{"waits for nothing, in Ready", and(waiting(api.WaitNone, 0), readies(0, 1)), []int{5, 7}},
		{"three messages", holds(0, "", "", ""), []int{11}},
		{"five bytes", holds(0, "abcde"), []int{11}},
		{"Age 1", func(s *api.State) { s.Ports[0].Age = 1 }, []int{12}},
		{"a port that isn't empty", and(waiting(api.WaitPort, 0), holds(0, "a")), []int{16}},
		{"a count of 256", func(s *api.State) { s.Sems[0] = 256 }, []int{10}},
		{"another right", func(s *api.State) { s.Pages[0].Rights = api.Read }, []int{13}},
	})
	p.Procs = nil
	if got := valid.Faults(p, s); !slices.Equal(got, []int{0}) {
		t.Errorf("P11.1: Faults of a plan that isn't valid = %v", got)
	}
	wantBare(t, "P11.1: Check", valid.Check(p, s), api.ErrPlan)
	wantBare(t, "P11.1: Rest", valid.Rest(p, s), api.ErrPlan)
	wantBare(t, "P11.1: Check", valid.Check(api.Plan{}, api.State{}), api.ErrPlan)
}

// TestCounters: the rules 1 to 3 at their edges.
func TestCounters(t *testing.T) {
	p, s := example(t)
	wantChanges(t, p, s, []change{
		{"the last frame and epoch", func(s *api.State) { s.Frame, s.Epoch = 2147483647, 2147483647 }, nil},
		{"Frame -1", func(s *api.State) { s.Frame = -1 }, []int{2}},
		{"Frame above", func(s *api.State) { s.Frame = 2147483648 }, []int{2}},
		{"Epoch -1", func(s *api.State) { s.Epoch = -1 }, []int{2}},
		{"Epoch above", func(s *api.State) { s.Epoch = math.MaxInt }, []int{2}},
		{"no process", func(s *api.State) { s.Procs, s.Ready = nil, nil }, []int{3}},
		{"a port more", func(s *api.State) { s.Ports = append(s.Ports, api.Port{Age: 400, Msgs: make([]string, 400)}) }, []int{3}},
		{"no port", func(s *api.State) { s.Ports = nil }, []int{3}},
		{"a page more", func(s *api.State) { s.Pages = append(s.Pages, api.Page{Rights: -1}) }, []int{3}},
		{"no page", func(s *api.State) { s.Pages = nil }, []int{3}},
		{"an event more", func(s *api.State) { s.Up = append(s.Up, true) }, []int{3}},
		{"an event less", func(s *api.State) { s.Up = s.Up[1:] }, []int{3}},
		{"a semaphore more", func(s *api.State) { s.Sems = append(s.Sems, 1) }, []int{3}},
		{"a wrong semaphore more", func(s *api.State) { s.Sems = append(s.Sems, -1) }, []int{3, 10}},
		{"no semaphore", func(s *api.State) { s.Sems = nil }, []int{3}},
		{"nothing", func(s *api.State) { *s = api.State{} }, []int{1, 3}},
	})
}

// TestProcesses: the rules 4 to 7 at their edges.
func TestProcesses(t *testing.T) {
	p, s := example(t)
	idle := func(state int) func(s *api.State) {
		return func(s *api.State) { s.Procs[1].State, s.Ready = state, []int{0} }
	}
	wantChanges(t, p, s, []change{
		{"r0", func(s *api.State) { s.Procs[1].Regs[0] = 1 << 31 }, []int{4}},
		{"other registers", func(s *api.State) { s.Procs[1].Regs = [16]uint32{1: 1, 15: 1 << 31} }, nil},
		{"Pc", func(s *api.State) { s.Procs[1].Pc = 1<<32 - 1 }, nil},
		{"dormant", idle(api.Dormant), nil},
		{"failed", idle(api.Failed), nil},
		{"State 4", idle(4), []int{4}},
		{"State -1", idle(-1), []int{4}},
		{"Prio 255", func(s *api.State) { s.Procs[0].Prio = 255 }, nil},
		{"Prio 256", func(s *api.State) { s.Procs[0].Prio = 256 }, []int{4}},
		{"Prio -1", func(s *api.State) { s.Procs[0].Prio = -1 }, []int{4}},
		{"Wait 5", waiting(5, 0), []int{4}},
		{"Wait 5 and a thing", waiting(5, 1), []int{4, 6}},
		{"Wait -1", waiting(-1, 0), []int{4}},
		{"a ready one that waits", func(s *api.State) { s.Procs[0].Wait = api.WaitSem }, []int{5}},
		{"a dormant one that waits", and(idle(api.Dormant), func(s *api.State) { s.Procs[1].Wait = api.WaitEvent }), []int{5}},
		{"a ready one with a thing", func(s *api.State) { s.Procs[0].Obj = 1 }, []int{6}},
		{"a sleeper with a thing", and(waiting(api.WaitSleep, 1), timers(api.Timer{Proc: 1})), []int{6}},
		{"event -1", waiting(api.WaitEvent, -1), []int{6}},
		{"event 0", waiting(api.WaitEvent, 0), nil},
		{"semaphore 0", waiting(api.WaitSem, 0), nil},
		{"semaphore 1", waiting(api.WaitSem, 1), []int{6}},
		{"semaphore -1", waiting(api.WaitSem, -1), []int{6}},
		{"port 0", waiting(api.WaitPort, 0), nil},
		{"port 1", waiting(api.WaitPort, 1), []int{6}},
		{"port -1", waiting(api.WaitPort, math.MinInt), []int{6}},
		{"another order", readies(1, 0), nil},
		{"one twice", readies(0, 1, 1), []int{7}},
		{"one twice, the other not", readies(1, 1), []int{7}},
		{"one not", readies(1), []int{7}},
		{"none", readies(), []int{7}},
		{"a number that is none", readies(0, 1, 2), []int{7}},
		{"a number below all", readies(0, 1, -1), []int{7}},
		{"one that isn't ready", and(idle(api.Failed), readies(0, 1)), []int{7}},
	})
}

// TestTimers: the rules 8 and 9 at their edges.
func TestTimers(t *testing.T) {
	p, s := example(t)
	both := func(s *api.State) {
		for i := range s.Procs {
			s.Procs[i].State, s.Procs[i].Wait = api.Waiting, api.WaitEvent
		}
		s.Ready = nil
	}
	at := func(proc, due int) api.Timer { return api.Timer{Proc: proc, Due: due} }
	wantChanges(t, p, s, []change{
		{"no timer", both, nil},
		{"one due, the lesser first", and(both, timers(at(0, 5), at(1, 5))), nil},
		{"one due, the greater first", and(both, timers(at(1, 5), at(0, 5))), []int{8}},
		{"rising", and(both, timers(at(1, 0), at(0, 1010000))), nil},
		{"falling", and(both, timers(at(0, 6), at(1, 5))), []int{8}},
		{"one twice", and(both, timers(at(0, 5), at(0, 6))), []int{8}},
		{"one twice at once", and(both, timers(at(0, 5), at(0, 5))), []int{8}},
		{"Due -1", and(both, timers(at(0, -1))), []int{8}},
		{"Due above", and(both, timers(at(0, 1010001))), []int{8}},
		{"no such process", and(both, timers(at(0, 5), at(2, 5))), []int{8}},
		{"a process below all", and(both, timers(at(-1, 5))), []int{8}},
		{"a ready one", timers(at(0, 5)), []int{9}},
		{"a dormant one", func(s *api.State) { s.Procs[0].State, s.Ready, s.Timers = api.Dormant, []int{1}, []api.Timer{at(0, 5)} }, []int{9}},
		{"one that says it sleeps", func(s *api.State) { s.Procs[0].Wait = api.WaitSleep }, []int{5, 9}},
		{"another's timer", and(waiting(api.WaitSleep, 0), timers(at(0, 5))), []int{9}},
		{"timers of none alone", and(waiting(api.WaitSleep, 0), timers(at(2, 5))), []int{8, 9}},
	})
}

// TestMany: more processes than a plan may have are asked all the same.
func TestMany(t *testing.T) {
	p, s := example(t)
	s.Procs = append(s.Procs, make([]api.Proc, 300)...)
	wantFaults(t, "302 processes", p, s, 3)
	s.Procs[301] = api.Proc{State: api.Waiting, Wait: api.WaitSleep}
	wantFaults(t, "the last one sleeps without a timer", p, s, 3, 9)
	s.Timers = []api.Timer{{Proc: 301, Due: 4}}
	wantFaults(t, "the last one sleeps", p, s, 3)
	s.Procs[300].State, s.Ready = api.Ready, []int{300, 1, 0}
	wantFaults(t, "another one is ready", p, s, 3)
	s.Procs[299].Prio = -1
	wantFaults(t, "a wrong Prio", p, s, 3, 4)
	s.Timers = append(s.Timers, api.Timer{Proc: 302, Due: 5})
	wantFaults(t, "a timer of none", p, s, 3, 4, 8)
}

// TestPorts: the rules 11, 12, 16 and 17 at their edges.
func TestPorts(t *testing.T) {
	p := rich()
	s := boot(t, p)
	age := func(port, age int) func(s *api.State) { return func(s *api.State) { s.Ports[port].Age = age } }
	waits := func(port int) func(s *api.State) {
		return func(s *api.State) { s.Procs[3] = api.Proc{State: api.Waiting, Wait: api.WaitPort, Obj: port} }
	}
	wantChanges(t, p, s, []change{
		{"a sample", and(holds(0, "abcd"), age(0, 255)), nil},
		{"two samples", holds(0, "", ""), []int{11}},
		{"five bytes", holds(0, "abcde"), []int{11}},
		{"Age 256", and(holds(0, "a"), age(0, 256)), []int{12}},
		{"Age -1", and(holds(0, "a"), age(0, -1)), []int{12}},
		{"Age of no message", age(0, 1), []int{12}},
		{"Age of a sample out", and(holds(1, "a"), age(1, 1)), []int{12, 17}},
		{"Age of a queue", and(holds(2, "a"), age(2, 1)), []int{12}},
		{"a full queue", holds(2, "abcd", ""), nil},
		{"an overfull queue", holds(2, "", "", ""), []int{11}},
		{"the second message too long", holds(2, "", "abcde"), []int{11}},
		{"a sample out", holds(1, ""), []int{17}},
		{"a queue out", holds(3, ""), []int{17}},
		{"an overfull queue out", holds(3, "", "", ""), []int{11, 17}},
		{"waits for a sample", waits(0), []int{6}},
		{"waits for a sample out", and(waits(1), holds(1, "a")), []int{6, 17}},
		{"waits for a queue", waits(2), nil},
		{"waits for a queue that has one", and(waits(2), holds(2, "a", "b")), []int{16}},
		{"waits for a queue out that is empty", waits(3), []int{16}},
		{"waits for a queue out that has room", and(waits(3), holds(3, "a")), []int{16, 17}},
		{"waits for a queue out that is full", and(waits(3), holds(3, "a", "b")), []int{17}},
		{"waits for one that is overfull", and(waits(3), holds(3, "a", "b", "c")), []int{11, 16, 17}},
		{"waits for a port that the state hasn't", and(waits(3), func(s *api.State) { s.Ports = s.Ports[:3] }), []int{3}},
		{"says it waits, and is dormant", and(waits(3), func(s *api.State) { s.Procs[3].State = api.Dormant }), []int{5, 16}},
	})
}

// TestThings: the rules 10 and 13 to 15 at their edges.
func TestThings(t *testing.T) {
	p := rich()
	s := boot(t, p)
	waits := func(wait, obj int) func(s *api.State) {
		return func(s *api.State) { s.Procs[2] = api.Proc{State: api.Waiting, Wait: wait, Obj: obj} }
	}
	wantChanges(t, p, s, []change{
		{"all events up", func(s *api.State) { s.Up = []bool{true, true, true} }, nil},
		{"waits for a down one", and(waits(api.WaitEvent, 2), func(s *api.State) { s.Up = []bool{true, true, false} }), nil},
		{"waits for an up one", and(waits(api.WaitEvent, 2), func(s *api.State) { s.Up = []bool{false, false, true} }), []int{14}},
		{"waits for an event that the state hasn't", and(waits(api.WaitEvent, 2), func(s *api.State) { s.Up = []bool{true, true} }), []int{3}},
		{"waits for an event that the plan hasn't", and(waits(api.WaitEvent, 3), func(s *api.State) { s.Up = []bool{true, true, true, true} }), []int{3, 6}},
		{"waits for a semaphore of 0", waits(api.WaitSem, 0), nil},
		{"waits for a semaphore of 5", waits(api.WaitSem, 1), []int{15}},
		{"waits for a semaphore of -1", and(waits(api.WaitSem, 0), func(s *api.State) { s.Sems[0] = -1 }), []int{10, 15}},
		{"waits for a semaphore that the state hasn't", and(waits(api.WaitSem, 1), func(s *api.State) { s.Sems = s.Sems[:1] }), []int{3}},
		{"waits for a semaphore that the plan hasn't", and(waits(api.WaitSem, 2), func(s *api.State) { s.Sems = []int{1, 1, 1} }), []int{3, 6}},
		{"says it waits, and is ready", func(s *api.State) {
			s.Procs[2] = api.Proc{State: api.Ready, Wait: api.WaitSem, Obj: 1}
			s.Ready = []int{2}
		}, []int{5, 15}},
		{"the greatest count", func(s *api.State) { s.Sems[1] = 255 }, nil},
		{"a greater count", func(s *api.State) { s.Sems[1] = 256 }, []int{10}},
		{"no rights", func(s *api.State) { s.Pages[1].Rights = 0 }, []int{13}},
		{"a right more", func(s *api.State) { s.Pages[0].Rights = 7 }, []int{13}},
		{"another page", func(s *api.State) { s.Pages[0] = api.Page{Rights: 5, Dirty: true, Data: [64]byte{7}} }, nil},
	})
}
