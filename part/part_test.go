package part_test

import (
	"math"
	"slices"
	"testing"

	"ferry/api"
	"ferry/part"
	"ferry/valid"
)

// round goes on for ever.
const round = "beq r0 r0 -1"

func wantReady(t *testing.T, what string, s api.State, want ...int) {
	t.Helper()
	if !slices.Equal(s.Ready, want) {
		t.Errorf("%s: Ready is %v, want %v", what, s.Ready, want)
	}
}

func wantReports(t *testing.T, what string, got []api.Report, want ...api.Report) {
	t.Helper()
	if !slices.Equal(got, want) {
		t.Errorf("%s: reports %v, want %v", what, got, want)
	}
}

func wantTimers(t *testing.T, what string, s api.State, want ...api.Timer) {
	t.Helper()
	if !slices.Equal(s.Timers, want) {
		t.Errorf("%s: timers %v, want %v", what, s.Timers, want)
	}
}

func fault(proc, code int, pc uint32) api.Report {
	return api.Report{Kind: api.ReportFault, Proc: proc, Code: uint32(code), Pc: pc}
}

// TestTurns: the examples 1 to 5.
func TestTurns(t *testing.T) {
	p, b := example(t, "sys 1", round)
	s, reports := window(t, p, b, 0, 10)
	wantReports(t, "P13.1: example 1", reports)
	wantReady(t, "P13.1: example 1", s, 1)
	if s.Procs[0].State != api.Dormant || s.Procs[0].Pc != 4 || s.Procs[1].Pc != 32 || s.Frame != 0 {
		t.Errorf("P13.1: example 1: %v", s)
	}
	p, b = example(t, round, round)
	s, _ = window(t, p, b, 0, 10)
	wantReady(t, "P13.1: example 2", s, 0, 1)
	turns := "sys 0; beq r0 r0 -2"
	p, b = example(t, turns, turns)
	for ticks, want := range map[int][4]int{1: {1, 0, 4, 32}, 2: {0, 1, 4, 36}, 3: {0, 1, 0, 36}, 4: {1, 0, 4, 36}, 5: {1, 0, 4, 32}, 6: {0, 1, 4, 36}} {
		s, _ = window(t, p, b, 0, ticks)
		wantReady(t, "P13.1: example 3", s, want[0], want[1])
		if s.Procs[0].Pc != uint32(want[2]) || s.Procs[1].Pc != uint32(want[3]) {
			t.Errorf("P13.1: example 3 for %d ticks: %v", ticks, s.Procs)
		}
	}
}

// TestSleepers: the examples 4 and 5, tick by tick. Process 1 counts its ticks.
func TestSleepers(t *testing.T) {
	p, b := example(t, "addi r1 r0 3; sys 3; sys 1", "addi r4 r4 1; addi r4 r4 1; addi r4 r4 1; addi r4 r4 1; addi r4 r4 1; addi r4 r4 1; addi r4 r4 1; addi r4 r4 1")
	for _, c := range []struct {
		prio, ticks, count int
		ready              []int
		state, due         int
	}{
		{1, 1, 0, []int{0, 1}, api.Ready, -1}, {1, 2, 0, []int{1}, api.Waiting, 5}, {1, 5, 3, []int{1}, api.Waiting, 5},
		{1, 6, 4, []int{1, 0}, api.Ready, -1}, {1, 10, 8, []int{1, 0}, api.Ready, -1},
		{2, 5, 3, []int{1}, api.Waiting, 5}, {2, 6, 3, []int{1}, api.Dormant, -1}, {2, 10, 7, []int{1}, api.Dormant, -1},
		{0, 8, 8, []int{0, 1}, api.Ready, -1},
	} {
		p.Procs[0].Prio, b.Procs[0].Prio = c.prio, c.prio
		s, reports := window(t, p, b, 0, c.ticks)
		wantReady(t, "P13.1: examples 4 and 5", s, c.ready...)
		wantReports(t, "P13.1: examples 4 and 5", reports)
		var timers []api.Timer
		if c.due >= 0 {
			timers = []api.Timer{{Proc: 0, Due: c.due}}
		}
		wantTimers(t, "P13.1: examples 4 and 5", s, timers...)
		if s.Procs[1].Regs[4] != uint32(c.count) || s.Procs[0].State != c.state {
			t.Errorf("P13.1: Prio %d for %d ticks: process 1 took %d ticks, process 0 is %v", c.prio, c.ticks, s.Procs[1].Regs[4], s.Procs[0])
		}
	}
}

// TestFaults: example 6, and the other faults: each takes its tick, changes nothing, and leaves the Pc at its instruction.
func TestFaults(t *testing.T) {
	for _, c := range []struct {
		text  string
		ticks int // that the process takes, the fault's too
		code  int
	}{
		{"", 1, api.FaultOp},
		{"addi r1 r0 3; sys 99", 2, api.FaultCall},
		{"sys 15", 1, api.FaultCall},
		{"sys 65535", 1, api.FaultCall},
		{"addi r1 r0 3; divu r1 r1 r0", 2, api.FaultDivide},
		{"addi r1 r0 3; lw r1 r0 64", 2, api.FaultPage},
		{"sh r1 r0 1", 1, api.FaultAlign},
		{"addi r5 r0 9; addi r1 r0 0; addi r2 r0 63; sys 12", 4, api.FaultPage},
		{"addi r1 r0 1; addi r2 r0 62; addi r3 r0 3; sys 13", 4, api.FaultPage},
	} {
		p, b := example(t, c.text, "sys 1")
		p.Ports = []api.PortPlan{{Kind: api.QueueIn, Size: 4, Depth: 2}, {Kind: api.QueueOut, Size: 4, Depth: 2}}
		b = boot(t, p)
		b.Ports[0].Msgs = []string{"ab"}
		s, reports := window(t, p, b, 0, c.ticks)
		wantReports(t, "P13.1: "+c.text, reports, fault(0, c.code, uint32(4*c.ticks-4)))
		wantReady(t, "P13.1: "+c.text, s, 1)
		if s.Procs[0].State != api.Failed || s.Procs[0].Pc != uint32(4*c.ticks-4) || s.Procs[1].Pc != 32 || !samePorts(s.Ports, b.Ports) || !slices.Equal(s.Pages, b.Pages) {
			t.Errorf("P13.1: %s: %v", c.text, s)
		}
		if c.ticks > 1 {
			_, early := window(t, p, b, 0, c.ticks-1)
			wantReports(t, "P13.1: "+c.text+", a tick earlier", early)
		}
		if s, _ = window(t, p, b, 0, c.ticks+1); s.Procs[1].State != api.Dormant {
			t.Errorf("P13.1: %s: the next process doesn't run in the tick behind it", c.text)
		}
	}
}

// TestTime: a call sees the tick behind its own, and the partition's frame.
func TestTime(t *testing.T) {
	p, b := example(t, "addi r4 r4 1; sys 5; sys 1", "sys 1")
	b.Frame = 77
	for _, start := range []int{0, 100, 9997} {
		s, _ := window(t, p, b, start, 3)
		if s.Procs[0].Regs[1] != uint32(start+2) || s.Procs[0].Regs[2] != 77 {
			t.Errorf("P13.1: time behind %d: %v", start, s.Procs[0].Regs[:3])
		}
	}
	p, b = example(t, "addi r1 r0 5; sys 6; addi r1 r0 9; sys 6; sys 16", "lui r1 65535; sys 6; sys 1")
	s, reports := window(t, p, b, 0, 20)
	wantReports(t, "P13.1: raise", reports, api.Report{Kind: api.ReportRaise, Proc: 0, Code: 5, Pc: 4}, api.Report{Kind: api.ReportRaise, Proc: 0, Code: 9, Pc: 12},
		fault(0, api.FaultCall, 16), api.Report{Kind: api.ReportRaise, Proc: 1, Code: 0xFFFF0000, Pc: 36})
	wantReady(t, "P13.1: raise", s)
}

// TestDues: a timer fires at its Due where the window goes on, at the begin of the next window where it doesn't, and a time-out is told so.
func TestDues(t *testing.T) {
	p, b := example(t, "", "addi r4 r4 1; beq r0 r0 -2")
	p.Events = 1
	b = boot(t, p)
	b.Ready = []int{1}
	b.Procs[0] = api.Proc{Regs: [16]uint32{1: 9}, State: api.Waiting, Wait: api.WaitSleep, Prio: 1}
	for _, c := range []struct{ wait, r1 int }{{api.WaitSleep, 0}, {api.WaitEvent, 0xFFFFFFFE}} {
		b.Procs[0].Wait = c.wait
		b.Timers = []api.Timer{{Proc: 0, Due: 20}}
		for _, w := range []struct {
			start, length int
			fires         bool
		}{{0, 20, false}, {0, 21, true}, {10, 10, false}, {19, 1, false}, {19, 2, true}, {20, 1, true}, {30, 1, true}, {9999, 1, true}} {
			s, _ := window(t, p, b, w.start, w.length)
			if w.fires != (s.Procs[0].State == api.Ready) || w.fires && s.Procs[0].Regs[1] != uint32(c.r1) || w.fires != (len(s.Timers) == 0) {
				t.Errorf("P13.1: a timer at 20, a window of %d ticks from %d: %v", w.length, w.start, s.Procs[0])
			}
		}
	}
}

// TestIdle: where nobody is ready the time goes on to the next Due; several timers fire in their order.
func TestIdle(t *testing.T) {
	p, b := example(t, "sys 5; sys 1", "sys 5; sys 1")
	p.Procs = append(p.Procs, api.ProcPlan{Entry: 32, Prio: 1})
	b = boot(t, p)
	b.Ready = nil
	for i := range b.Procs {
		b.Procs[i].State, b.Procs[i].Wait, b.Procs[i].Pc = api.Waiting, api.WaitSleep, 0
	}
	b.Timers = []api.Timer{{Proc: 1, Due: 4}, {Proc: 2, Due: 6}, {Proc: 0, Due: 7}}
	for _, c := range []struct {
		start, length int
		times         [3]uint32
	}{{0, 10, [3]uint32{9, 5, 7}}, {6, 10, [3]uint32{11, 7, 9}}, {50, 10, [3]uint32{55, 51, 53}}, {0, 4, [3]uint32{}}, {0, 7, [3]uint32{0, 5, 7}}} {
		s, reports := window(t, p, b, c.start, c.length)
		wantReports(t, "P13.1: sleepers", reports)
		if got := [3]uint32{s.Procs[0].Regs[1], s.Procs[1].Regs[1], s.Procs[2].Regs[1]}; got != c.times {
			t.Errorf("P13.1: a window of %d ticks from %d: the times are %v, want %v", c.length, c.start, got, c.times)
		}
	}
	p, b = example(t, "sys 1", "sys 1")
	s, _ := window(t, p, b, 0, 10000)
	again, reports := window(t, p, s, 0, 10000)
	wantReports(t, "P13.1: nobody runs", reports)
	if !same(again, s) || len(s.Ready) > 0 {
		t.Errorf("P13.1: nobody runs: %v", again)
	}
}

func TestWindowArguments(t *testing.T) {
	p, b := example(t, round, round)
	for _, c := range [][2]int{
		{9995, 6}, {0, 0}, {0, -1}, {-1, 1}, {-1, 5}, {0, 10001}, {10000, 1}, {10001, 1}, {9999, 2}, {1 << 62, 1 << 62}, {1 << 62, math.MaxInt},
		{math.MaxInt, 1}, {1, math.MaxInt}, {math.MaxInt, math.MaxInt}, {math.MinInt, 1}, {1, math.MinInt}, {math.MinInt, math.MinInt}, {math.MinInt, math.MaxInt},
	} {
		s, reports, err := part.Window(p, b, c[0], c[1])
		wantBare(t, "P13.1: Window", err, api.ErrArg)
		if !same(s, api.State{}) || reports != nil {
			t.Errorf("P13.1: Window%v beside an error: %v, %v", c, s, reports)
		}
	}
	for _, c := range [][2]int{{9995, 5}, {9999, 1}, {0, 1}, {0, 10000}} {
		window(t, p, b, c[0], c[1])
	}
}

// ports: a plan with ports in and out, and a state in which four processes wait for them, the greater number for the lesser port.
func ports(t *testing.T, kind int) (api.Plan, api.State) {
	t.Helper()
	p := api.Plan{Pages: []api.PagePlan{{Rights: 7}}, Procs: make([]api.ProcPlan, 5)}
	for range 2 {
		p.Ports = append(p.Ports, api.PortPlan{Kind: kind, Size: 4, Depth: 1}, api.PortPlan{Kind: kind - 2, Size: 4, Depth: 1})
	}
	s := boot(t, p)
	for i, port := range []int{2, 2, 0, 0} {
		s.Procs[i] = api.Proc{Regs: [16]uint32{1: 9, 2: 8}, State: api.Waiting, Wait: api.WaitPort, Obj: port, Prio: i}
	}
	s.Procs[4].State, s.Ready = api.Ready, []int{4}
	s.Timers = []api.Timer{{Proc: 3, Due: 5}, {Proc: 1, Due: 30}}
	return p, s
}

// TestBegin: ages, messages, drops; then those who wait are woken, port by port, and by number.
func TestBegin(t *testing.T) {
	p, s := ports(t, api.QueueIn)
	s.Ports[1].Msgs, s.Ports[1].Age = []string{"x"}, 3
	s.Ports[3].Msgs, s.Ports[3].Age = []string{"y"}, 255
	after, reports := begin(t, p, s)
	want := roomy(s)
	want.Ports[1].Age = 4
	wantReports(t, "P13.1: Begin without messages", reports)
	if !same(after, want) {
		t.Errorf("P13.1: Begin without messages: %v, want %v", after, want)
	}
	after, reports = begin(t, p, s, api.Msg{Port: 2, Data: "b"}, api.Msg{Port: 2, Data: "c"}, api.Msg{Port: 3, Data: "new"}, api.Msg{Port: 0, Data: ""},
		api.Msg{Port: 1, Data: "long!"}, api.Msg{Port: -1}, api.Msg{Port: 4, Data: "z"}, api.Msg{Port: 1 << 40})
	drop := func(code uint32) api.Report { return api.Report{Kind: api.ReportDrop, Proc: -1, Code: code} }
	wantReports(t, "P13.1: Begin", reports, drop(2), drop(1), drop(0xFFFFFFFF), drop(4), drop(0))
	want.Ports = []api.Port{{Msgs: []string{""}}, {Msgs: []string{"x"}, Age: 4}, {Msgs: []string{"b"}}, {Msgs: []string{"new"}}}
	want.Ready, want.Timers = []int{4, 2, 3, 0, 1}, nil
	for i := range 4 {
		want.Procs[i] = api.Proc{Regs: [16]uint32{2: 8}, State: api.Ready, Prio: i}
	}
	if !same(after, want) {
		t.Errorf("P13.1: Begin: %v, want %v", after, want)
	}
	after, _ = begin(t, p, s, api.Msg{Port: 2, Data: "b"})
	wantReady(t, "P13.1: a message to one of the ports", after, 4, 0, 1)
	wantTimers(t, "P13.1: a message to one of the ports", after, api.Timer{Proc: 3, Due: 5})
	if valid.Check(p, after) != nil || after.Procs[2].Wait != api.WaitPort {
		t.Errorf("P13.1: a message to one of the ports: %v", after)
	}
}

// TestBeginNotAtRest: what ports out hold is in form, and stays; whoever waits for one goes on waiting.
func TestBeginNotAtRest(t *testing.T) {
	p, s := ports(t, api.QueueOut)
	s.Ports[0].Msgs, s.Ports[2].Msgs, s.Ports[1].Msgs = []string{"a"}, []string{"b"}, []string{"c"}
	after, reports := begin(t, p, s, api.Msg{Port: 0, Data: "z"}, api.Msg{Port: 1, Data: "z"})
	drop := api.Report{Kind: api.ReportDrop, Proc: -1}
	wantReports(t, "P13.1: messages to ports out", reports, drop, api.Report{Kind: api.ReportDrop, Proc: -1, Code: 1})
	if !same(after, s) {
		t.Errorf("P13.1: Begin of a state that isn't at rest: %v, want %v", after, s)
	}
}

// TestEnd: what is emitted; then those who wait are woken, port by port, and by number; timers and Frame.
func TestEnd(t *testing.T) {
	p, s := ports(t, api.QueueOut)
	s.Ports[0].Msgs, s.Ports[1].Msgs, s.Ports[2].Msgs = []string{"a"}, []string{""}, []string{"b"}
	after, msgs := end(t, p, s, 10)
	want := roomy(s)
	for i := range 4 {
		want.Procs[i] = api.Proc{Regs: [16]uint32{2: 8}, State: api.Ready, Prio: i}
		want.Ports[i].Msgs = nil
	}
	want.Ready, want.Timers, want.Frame = []int{4, 2, 3, 0, 1}, nil, 1
	if !same(after, want) || !slices.Equal(msgs, []api.Msg{{Port: 0, Data: "a"}, {Port: 1, Data: ""}, {Port: 2, Data: "b"}}) {
		t.Errorf("P13.1: End: %v, emits %v, want %v", after, msgs, want)
	}
	if err := valid.Rest(p, after); err != nil {
		t.Errorf("P13.3: End: %v", err)
	}
	p, s = ports(t, api.QueueIn)
	s.Ports[1].Msgs, s.Ports[1].Age = []string{"x"}, 3
	after, msgs = end(t, p, s, 10)
	want = roomy(s)
	want.Timers, want.Frame = []api.Timer{{Proc: 3, Due: 0}, {Proc: 1, Due: 20}}, 1
	if !same(after, want) || len(msgs) > 0 {
		t.Errorf("P13.1: End with ports in: %v, emits %v, want %v", after, msgs, want)
	}
}

// TestShift: example 8, and the order of timers that come to one Due.
func TestShift(t *testing.T) {
	p, b := example(t, "sys 1", "sys 1")
	b.Ready, b.Frame = nil, 4
	for i := range b.Procs {
		b.Procs[i].State, b.Procs[i].Wait = api.Waiting, api.WaitSleep
	}
	b.Timers = []api.Timer{{Proc: 1, Due: 7}, {Proc: 0, Due: 12}}
	s, _ := end(t, p, b, 10)
	wantTimers(t, "P13.1: example 8", s, api.Timer{Proc: 1, Due: 0}, api.Timer{Proc: 0, Due: 2})
	if s.Frame != 5 {
		t.Errorf("P13.1: Frame is %d", s.Frame)
	}
	next, _ := window(t, p, s, 0, 1)
	wantTimers(t, "P13.1: example 8, a tick later", next, api.Timer{Proc: 0, Due: 2})
	if next.Procs[1].State != api.Dormant {
		t.Errorf("P13.1: example 8: what was due doesn't run in the first tick: %v", next.Procs[1])
	}
	s, _ = end(t, p, b, 12)
	wantTimers(t, "P13.1: two timers at 0", s, api.Timer{Proc: 0, Due: 0}, api.Timer{Proc: 1, Due: 0})
	for _, ticks := range []int{1, 10000} {
		end(t, p, b, ticks)
	}
}
