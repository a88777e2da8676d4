package sys_test

import (
	"math"
	"slices"
	"strings"
	"testing"

	"ferry/api"
	"ferry/sys"
	"ferry/valid"
)

// The calls' numbers.
const (
	yield = iota
	stop
	start
	sleep
	prio
	tell
	raise
	set
	clears
	await
	signal
	take
	read
	write
	port
)

// now is the tick of the examples.
const now = 10

// forever: the time-out that never comes.
const forever = 0xFFFFFFFF

// wantState looks whether a call by process proc turns the state into what the touch makes of it, and reports these.
func wantState(t *testing.T, what string, p api.Plan, s api.State, proc, call int, touch func(s *api.State), reports ...api.Report) api.State {
	t.Helper()
	got := do(t, p, s, proc, call, now)
	want := roomy(s)
	touch(&want)
	if !same(got.State, want) || !slices.Equal(got.Reports, reports) {
		t.Errorf("P12.1: %s: %v, reports %v, want\n%v, reports %v", what, got.State, got.Reports, want, reports)
	}
	if err := valid.Check(p, got.State); err != nil {
		t.Errorf("P12.1: %s: the state that is answered breaks rule %d", what, api.Place(err))
	}
	return got.State
}

// wantAnswer looks whether a call by process 0 with these registers answers that and does nothing else.
func wantAnswer(t *testing.T, what string, p api.Plan, s api.State, call int, want uint32, regs ...uint32) {
	t.Helper()
	wantState(t, what, p, with(s, 0, regs...), 0, call, func(s *api.State) { s.Procs[0].Regs[1] = want })
}

// wantFault looks whether a call by process 0 with these registers is that fault, and nothing is done.
func wantFault(t *testing.T, what string, p api.Plan, s api.State, call, fault int, regs ...uint32) {
	t.Helper()
	s = with(s, 0, regs...)
	look := kept(t, s)
	got, err := sys.Do(p, s, 0, call, now)
	if err != nil || got.Fault != fault || len(got.Reports) > 0 || !same(got.State, s) {
		t.Errorf("P12.1: %s: fault %d, want %d, reports %v, error %v, state\n%v, want\n%v", what, got.Fault, fault, got.Reports, err, got.State, s)
	}
	look(what)
	wantApart(t, "P12.6: "+what, p, s, got)
}

// blocks: process 0 waits for that; with a due below 0 without a timer.
func blocks(wait, obj, due int) func(s *api.State) {
	return func(s *api.State) {
		s.Procs[0].State, s.Procs[0].Wait, s.Procs[0].Obj = api.Waiting, wait, obj
		s.Ready = []int{1}
		if due >= 0 {
			s.Timers = []api.Timer{{Proc: 0, Due: due}}
		}
	}
}

func TestProcesses(t *testing.T) {
	p, s := example()
	yields := func(s *api.State) { s.Ready, s.Procs[0].Regs[1] = []int{1, 0}, 0 }
	wantState(t, "yield", p, with(s, 0, 77), 0, yield, yields)
	wantState(t, "sleep 0", p, with(s, 0, 0), 0, sleep, yields)
	wantState(t, "yield of the last", p, with(s, 1, 77), 1, yield, func(s *api.State) { s.Procs[1].Regs[1] = 0 })
	wantState(t, "stop", p, with(s, 0, 77), 0, stop, func(s *api.State) { s.Procs[0].State, s.Ready = api.Dormant, []int{1} })
	wantState(t, "sleep 5", p, with(s, 0, 5), 0, sleep, blocks(api.WaitSleep, 0, 15))
	wantState(t, "sleep 1", p, with(s, 0, 1), 0, sleep, blocks(api.WaitSleep, 0, 11))
	wantState(t, "the longest sleep", p, with(s, 0, 1000000), 0, sleep, blocks(api.WaitSleep, 0, 1000010))
	wantAnswer(t, "sleep 1000001", p, s, sleep, sys.Wrong, 1000001)
	wantAnswer(t, "sleep for ever", p, s, sleep, sys.Wrong, forever)
	wantAnswer(t, "time", p, s, tell, now, 77, 6)
	wantState(t, "time", p, with(s, 0, 77, 78), 0, tell, func(s *api.State) { s.Procs[0].Regs[1], s.Procs[0].Regs[2] = now, 6 })
	late := with(s, 0)
	late.Frame = api.MaxFrames
	wantState(t, "time of the last frame", p, late, 0, tell, func(s *api.State) { s.Procs[0].Regs[1], s.Procs[0].Regs[2] = now, math.MaxInt32 })
	answered := func(s *api.State) { s.Procs[0].Regs[1] = 0 }
	wantState(t, "raise", p, with(s, 0, 77), 0, raise, answered, api.Report{Kind: api.ReportRaise, Proc: 0, Code: 77, Pc: 4})
	low := with(s, 0, 0xFFFFFFFF)
	low.Procs[0].Pc = 3
	wantState(t, "raise at the lowest address", p, low, 0, raise, answered, api.Report{Kind: api.ReportRaise, Proc: 0, Code: 0xFFFFFFFF, Pc: 0xFFFFFFFF})
	wantState(t, "raise by process 1", p, with(s, 1, 7), 1, raise, func(s *api.State) { s.Procs[1].Regs[1] = 0 },
		api.Report{Kind: api.ReportRaise, Proc: 1, Code: 7, Pc: 0xFFFFFFFC})
}

func TestSleepAtTheEdges(t *testing.T) {
	p, s := example()
	for _, c := range []struct{ tick, due int }{{0, 1000000}, {10000, 1010000}} {
		got := do(t, p, with(s, 0, 1000000), 0, sleep, c.tick).State
		if !slices.Equal(got.Timers, []api.Timer{{Proc: 0, Due: c.due}}) || valid.Check(p, got) != nil {
			t.Errorf("P12.1: the longest sleep at %d: %v", c.tick, got.Timers)
		}
		got = do(t, p, with(s, 0, 0, 1000000), 0, await, c.tick).State
		if !slices.Equal(got.Timers, []api.Timer{{Proc: 0, Due: c.due}}) || valid.Check(p, got) != nil {
			t.Errorf("P12.1: the longest time-out at %d: %v", c.tick, got.Timers)
		}
		if got := do(t, p, s, 0, tell, c.tick).State; got.Procs[0].Regs[1] != uint32(c.tick) {
			t.Errorf("P12.1: time at %d: %d", c.tick, got.Procs[0].Regs[1])
		}
	}
}

func TestStart(t *testing.T) {
	p, s := example()
	wantAnswer(t, "start of one that is Ready", p, s, start, sys.Wrong, 1)
	wantAnswer(t, "start of oneself", p, s, start, sys.Wrong, 0)
	wantAnswer(t, "start of nobody", p, s, start, sys.Wrong, 2)
	wantAnswer(t, "start of -1", p, s, start, sys.Wrong, 0xFFFFFFFF)
	waits := with(s, 0, 1)
	waits.Procs[1].State, waits.Procs[1].Wait, waits.Ready = api.Waiting, api.WaitEvent, []int{0}
	wantAnswer(t, "start of one that waits", p, waits, start, sys.Wrong, 1)
	stopped := do(t, p, s, 1, stop, now).State
	wantState(t, "start behind stop", p, with(stopped, 0, 1), 0, start, func(s *api.State) {
		s.Procs[0].Regs[1], s.Ready = 0, []int{0, 1}
		s.Procs[1] = api.Proc{State: api.Ready, Prio: 5}
	})
	p, s = rich(t)
	for n, state := range map[int]int{2: api.Dormant, 3: api.Failed} {
		mine := with(s, 0, uint32(n))
		mine.Procs[n] = api.Proc{Regs: [16]uint32{1: 5, 15: 6}, Pc: 99, State: state, Prio: 1}
		wantState(t, "start", p, mine, 0, start, func(s *api.State) {
			s.Procs[0].Regs[1], s.Ready = 0, []int{0, 1, n}
			s.Procs[n] = api.Proc{Pc: uint32(p.Procs[n].Entry), State: api.Ready, Prio: p.Procs[n].Prio}
		})
	}
}

func TestPrio(t *testing.T) {
	p, s := example()
	for _, n := range []int{0, 9, 255} {
		wantState(t, "prio", p, with(s, 0, 0, uint32(n)), 0, prio, func(s *api.State) { s.Procs[0].Regs[1], s.Procs[0].Prio = 0, n })
		wantState(t, "prio of another", p, with(s, 0, 1, uint32(n)), 0, prio, func(s *api.State) { s.Procs[0].Regs[1], s.Procs[1].Prio = 0, n })
	}
	wantAnswer(t, "prio 256", p, s, prio, sys.Wrong, 0, 256)
	wantAnswer(t, "prio -1", p, s, prio, sys.Wrong, 0, 0xFFFFFFFF)
	wantAnswer(t, "prio of nobody", p, s, prio, sys.Wrong, 2, 9)
	for _, state := range []int{api.Dormant, api.Failed} {
		mine := with(s, 0, 1, 9)
		mine.Procs[1].State, mine.Ready = state, []int{0}
		wantState(t, "prio of one that isn't ready", p, mine, 0, prio, func(s *api.State) { s.Procs[0].Regs[1], s.Procs[1].Prio = 0, 9 })
	}
}

func TestEvents(t *testing.T) {
	p, s := example()
	wantState(t, "await 7", p, with(s, 0, 0, 7), 0, await, blocks(api.WaitEvent, 0, 17))
	wantState(t, "await for ever", p, with(s, 0, 0, forever), 0, await, blocks(api.WaitEvent, 0, -1))
	wantAnswer(t, "await 0", p, s, await, sys.Late, 0, 0)
	up := do(t, p, with(s, 0, 0), 0, set, now).State
	if !slices.Equal(up.Up, []bool{true}) {
		t.Errorf("P12.1: set: %v", up.Up)
	}
	for _, n := range []uint32{0, 7, 1000000, forever} {
		wantAnswer(t, "await of one that is up", p, up, await, 0, 0, n)
	}
	for _, mine := range []api.State{s, up} {
		wantAnswer(t, "await 1000001", p, mine, await, sys.Wrong, 0, 1000001)
		wantAnswer(t, "await almost for ever", p, mine, await, sys.Wrong, 0, 0xFFFFFFFE)
		wantState(t, "set", p, with(mine, 1, 0), 1, set, func(s *api.State) { s.Up[0] = true })
		wantState(t, "clear", p, with(mine, 1, 0), 1, clears, func(s *api.State) { s.Up[0] = false })
		for _, n := range []uint32{0, 7, 1000001, forever} {
			wantAnswer(t, "await of no event", p, mine, await, sys.Wrong, 1, n)
		}
		wantAnswer(t, "set of no event", p, mine, set, sys.Wrong, 1)
		wantAnswer(t, "clear of no event", p, mine, clears, sys.Wrong, 0xFFFFFFFF)
	}
	for _, n := range []uint32{7, forever} {
		waits := do(t, p, with(s, 0, 0, n), 0, await, now).State
		wantState(t, "set while one waits", p, with(waits, 1, 0), 1, set, func(s *api.State) {
			s.Up[0], s.Ready, s.Timers = true, []int{1, 0}, nil
			s.Procs[0].State, s.Procs[0].Wait, s.Procs[0].Regs[1] = api.Ready, api.WaitNone, 0
		})
		wantState(t, "clear while one waits", p, with(waits, 1, 0), 1, clears, func(s *api.State) {})
	}
}

// TestSetWakesByNumber: all that wait for the event, and nobody else, in the order of their numbers whatever their Prio is.
func TestSetWakesByNumber(t *testing.T) {
	p, s := rich(t)
	s.Procs[0], s.Procs[2] = waiter(api.WaitEvent, 2, 1), waiter(api.WaitEvent, 2, 9)
	s.Procs[3] = waiter(api.WaitEvent, 1, 1)
	s.Ready = []int{1}
	s.Timers = []api.Timer{{Proc: 2, Due: 20}, {Proc: 3, Due: 20}}
	wantState(t, "set", p, with(s, 1, 2), 1, set, func(s *api.State) {
		s.Up[2], s.Ready, s.Timers = true, []int{1, 0, 2}, []api.Timer{{Proc: 3, Due: 20}}
		s.Procs[0], s.Procs[2], s.Procs[1].Regs[1] = woken(s.Procs[0], 0), woken(s.Procs[2], 0), 0
	})
}

func waiter(wait, obj, prio int) api.Proc {
	return api.Proc{Regs: [16]uint32{1: 7, 2: 8}, State: api.Waiting, Wait: wait, Obj: obj, Prio: prio}
}

func woken(q api.Proc, r1 uint32) api.Proc {
	q.State, q.Wait, q.Obj, q.Regs[1] = api.Ready, 0, 0, r1
	return q
}

func TestSemaphores(t *testing.T) {
	p, s := example()
	got := wantState(t, "signal", p, with(s, 0, 0), 0, signal, func(s *api.State) { s.Sems[0] = 1 })
	got = wantState(t, "take", p, with(got, 0, 0, 0), 0, take, func(s *api.State) { s.Sems[0] = 0 })
	wantAnswer(t, "take again", p, got, take, sys.Late, 0, 0)
	wantState(t, "take 7", p, with(s, 0, 0, 7), 0, take, blocks(api.WaitSem, 0, 17))
	wantState(t, "take for ever", p, with(s, 0, 0, forever), 0, take, blocks(api.WaitSem, 0, -1))
	for count, next := range map[int]int{0: 1, 1: 2, 253: 254, 254: 255} {
		mine := with(s, 0, 0)
		mine.Sems[0] = count
		wantState(t, "signal", p, mine, 0, signal, func(s *api.State) { s.Sems[0] = next })
		mine.Sems[0] = next
		for _, n := range []uint32{0, 9, 1000000, forever} {
			wantState(t, "take", p, with(mine, 0, 0, n), 0, take, func(s *api.State) { s.Sems[0], s.Procs[0].Regs[1] = count, 0 })
		}
		for _, n := range []uint32{1000001, 0xFFFFFFFE} {
			wantAnswer(t, "take with a wrong time-out", p, mine, take, sys.Wrong, 0, n)
		}
	}
	most := with(s, 0)
	most.Sems[0] = 255
	wantAnswer(t, "signal at 255", p, most, signal, sys.Full, 0)
	wantAnswer(t, "signal of none", p, s, signal, sys.Wrong, 1)
	wantAnswer(t, "take of none", p, s, take, sys.Wrong, 1, 0)
	wantAnswer(t, "take of none, a wrong time-out", p, s, take, sys.Wrong, 1, 1000001)
}

// TestSignalWakesTheBest: the greatest Prio, of several such the least number; the count stays 0.
func TestSignalWakesTheBest(t *testing.T) {
	p, s := rich(t)
	s.Ready = []int{1}
	for _, c := range []struct {
		prios [4]int
		best  int
	}{{[4]int{3, 0, 3, 3}, 0}, {[4]int{3, 0, 4, 4}, 2}, {[4]int{3, 0, 4, 5}, 3}, {[4]int{255, 0, 0, 0}, 0}} {
		for _, i := range []int{0, 2, 3} {
			s.Procs[i] = waiter(api.WaitSem, 0, c.prios[i])
		}
		s.Timers = []api.Timer{{Proc: 3, Due: 19}, {Proc: 0, Due: 20}}
		wantState(t, "signal", p, with(s, 1, 0), 1, signal, func(s *api.State) {
			s.Ready, s.Procs[c.best], s.Procs[1].Regs[1] = []int{1, c.best}, woken(s.Procs[c.best], 0), 0
			s.Timers = slices.DeleteFunc(s.Timers, func(x api.Timer) bool { return x.Proc == c.best })
		})
		s.Procs[3] = waiter(api.WaitSem, 0, 255)
		wantState(t, "signal of another", p, with(s, 1, 1), 1, signal, func(s *api.State) { s.Sems[1], s.Procs[1].Regs[1] = 6, 0 })
	}
}

func TestRead(t *testing.T) {
	p, s := example()
	wantAnswer(t, "read of an empty port", p, s, read, sys.None, 0, 16)
	wantAnswer(t, "read of an empty port, at no address", p, s, read, sys.None, 0, 0xFFFFFFFF)
	s.Ports[0].Msgs = []string{"ab", "c"}
	got := wantState(t, "read", p, with(s, 0, 0, 16), 0, read, func(s *api.State) {
		s.Procs[0].Regs[1], s.Procs[0].Regs[2], s.Pages[0].Dirty, s.Ports[0].Msgs = 2, 1, true, []string{"c"}
		copy(s.Pages[0].Data[16:], "ab")
	})
	wantState(t, "read again", p, with(got, 0, 0, 17), 0, read, func(s *api.State) {
		s.Procs[0].Regs[1], s.Procs[0].Regs[2], s.Ports[0].Msgs = 1, 1, nil
		s.Pages[0].Data[17] = 'c'
	})
	wantState(t, "read up to the last byte", p, with(s, 0, 0, 62), 0, read, func(s *api.State) {
		s.Procs[0].Regs[1], s.Procs[0].Regs[2], s.Pages[0].Dirty, s.Ports[0].Msgs = 2, 1, true, []string{"c"}
		copy(s.Pages[0].Data[62:], "ab")
	})
	wantFault(t, "read at 63", p, s, read, api.FaultPage, 0, 63)
	wantFault(t, "read at the last address", p, s, read, api.FaultPage, 0, 0xFFFFFFFF)
	for _, addr := range []uint32{16, 63, 0xFFFFFFFF} {
		wantAnswer(t, "read of a port out", p, s, read, sys.Wrong, 1, addr)
		wantAnswer(t, "read of no port", p, s, read, sys.Wrong, 2, addr)
		wantAnswer(t, "read of port -1", p, s, read, sys.Wrong, 0xFFFFFFFF, addr)
	}
	s.Ports[0].Msgs = []string{"", "c"}
	wantState(t, "read of no bytes at no address", p, with(s, 0, 0, 0xFFFFFFFF), 0, read, func(s *api.State) {
		s.Procs[0].Regs[1], s.Procs[0].Regs[2], s.Ports[0].Msgs = 0, 1, []string{"c"}
	})
}

// TestReadOfSamples: the message stays, and is fresh below Refresh frames.
func TestReadOfSamples(t *testing.T) {
	p, s := rich(t)
	wantAnswer(t, "read of an empty port", p, s, read, sys.None, 0, 64)
	s.Ports[0].Msgs = []string{"abcd"}
	for age, fresh := range map[int]uint32{0: 1, 1: 1, 2: 0, 255: 0} {
		s.Ports[0].Age = age
		wantState(t, "read of a sample", p, with(s, 0, 0, 66), 0, read, func(s *api.State) {
			s.Procs[0].Regs[1], s.Procs[0].Regs[2], s.Pages[1].Dirty = 4, fresh, true
			copy(s.Pages[1].Data[2:], "abcd")
		})
	}
	wantFault(t, "read into a page that may not be written", p, s, read, api.FaultWrite, 0, 61)
	wantFault(t, "read across two pages", p, s, read, api.FaultWrite, 0, 62)
	wantFault(t, "read beyond a page that may be written", p, s, read, api.FaultWrite, 0, 190)
	wantState(t, "read across two pages", p, with(s, 0, 0, 126), 0, read, func(s *api.State) {
		s.Procs[0].Regs[1], s.Procs[0].Regs[2], s.Pages[1].Dirty, s.Pages[2].Dirty = 4, 0, true, true
		copy(s.Pages[1].Data[62:], "ab")
		copy(s.Pages[2].Data[:], "cd")
		if s.Ports[0].Age < 2 {
			s.Procs[0].Regs[2] = 1
		}
	})
	wantAnswer(t, "read of a sampling port out", p, s, read, sys.Wrong, 1, 64)
	wantAnswer(t, "read of a queuing port out", p, s, read, sys.Wrong, 3, 64)
}

func TestWrite(t *testing.T) {
	p, s := example()
	copy(s.Pages[0].Data[16:], "ab")
	writes := func(data string) func(s *api.State) {
		return func(s *api.State) { s.Ports[1].Msgs, s.Procs[0].Regs[1] = append(s.Ports[1].Msgs, data), 0 }
	}
	got := wantState(t, "write", p, with(s, 0, 1, 16, 2), 0, write, writes("ab"))
	wantState(t, "write of four bytes", p, with(got, 0, 1, 15, 4), 0, write, writes("\x00ab\x00"))
	got = wantState(t, "write of no bytes", p, with(got, 0, 1, 0xFFFFFFFF, 0), 0, write, writes(""))
	for _, regs := range [][2]uint32{{16, 2}, {0xFFFFFFFF, 4}, {0, 0}} {
		wantAnswer(t, "write to a full port", p, got, write, sys.Full, 1, regs[0], regs[1])
	}
	for _, mine := range []api.State{s, got} {
		wantAnswer(t, "write of five bytes", p, mine, write, sys.Wrong, 1, 16, 5)
		wantAnswer(t, "write of -1 bytes", p, mine, write, sys.Wrong, 1, 16, 0xFFFFFFFF)
		wantAnswer(t, "write to a port in", p, mine, write, sys.Wrong, 0, 16, 1)
		wantAnswer(t, "write to no port", p, mine, write, sys.Wrong, 2, 16, 1)
		wantAnswer(t, "write to port -1", p, mine, write, sys.Wrong, 0xFFFFFFFF, 16, 99)
	}
	wantFault(t, "write from 63", p, s, write, api.FaultPage, 1, 63, 2)
	wantFault(t, "write from the last address", p, s, write, api.FaultPage, 1, 0xFFFFFFFF, 1)
}

func TestWriteOfSamples(t *testing.T) {
	p, s := rich(t)
	for range 2 {
		s = wantState(t, "write of a sample", p, with(s, 0, 1, 4, 5), 0, write, func(s *api.State) {
			s.Ports[1].Msgs, s.Procs[0].Regs[1] = []string{"first"}, 0
		})
	}
	s = wantState(t, "write of a long sample, across two pages", p, with(s, 0, 1, 40, 32), 0, write, func(s *api.State) {
		s.Ports[1].Msgs, s.Procs[0].Regs[1] = []string{strings.Repeat("\x00", 32)}, 0
	})
	wantAnswer(t, "write of 33 bytes", p, s, write, sys.Wrong, 1, 40, 33)
	wantFault(t, "write from a page that may not be read", p, s, write, api.FaultRead, 1, 128, 1)
	wantFault(t, "write from two pages", p, s, write, api.FaultRead, 1, 120, 9)
	wantAnswer(t, "write to a sampling port in", p, s, write, sys.Wrong, 0, 64, 1)
	wantAnswer(t, "write to a queuing port in", p, s, write, sys.Wrong, 2, 64, 1)
}

func TestPort(t *testing.T) {
	p, s := example()
	wantState(t, "port 3", p, with(s, 0, 0, 3), 0, port, blocks(api.WaitPort, 0, 13))
	wantState(t, "port for ever", p, with(s, 0, 0, forever), 0, port, blocks(api.WaitPort, 0, -1))
	wantAnswer(t, "port 0", p, s, port, sys.Late, 0, 0)
	wantAnswer(t, "port with room", p, s, port, 0, 1, 3)
	s.Ports[0].Msgs, s.Ports[1].Msgs = []string{""}, []string{"a"}
	for _, n := range []uint32{0, 1, 1000000, forever} {
		wantAnswer(t, "port with a message", p, s, port, 0, 0, n)
		wantAnswer(t, "port with room", p, s, port, 0, 1, n)
	}
	wantAnswer(t, "port with a wrong time-out", p, s, port, sys.Wrong, 0, 1000001)
	wantAnswer(t, "no port", p, s, port, sys.Wrong, 2, 0)
	wantAnswer(t, "no port and a wrong time-out", p, s, port, sys.Wrong, 2, 1000001)
	s.Ports[1].Msgs = []string{"a", ""}
	wantState(t, "a full port", p, with(s, 0, 1, 9), 0, port, blocks(api.WaitPort, 1, 19))
	wantAnswer(t, "a full port, 0", p, s, port, sys.Late, 1, 0)
	p, s = rich(t)
	for _, n := range []uint32{0, 1} {
		wantAnswer(t, "a sampling port", p, s, port, sys.Wrong, n, 3)
	}
}

func TestNoSuchCall(t *testing.T) {
	p, s := example()
	for _, call := range []int{15, 16, 99, 65535, -1, 256, 1 << 32, math.MaxInt, math.MinInt} {
		wantFault(t, "no such call", p, s, call, api.FaultCall, 1, 2, 3)
	}
}

func TestErrors(t *testing.T) {
	p, s := example()
	waits := do(t, p, with(s, 0, 0, forever), 0, await, now).State
	stopped := do(t, p, s, 0, stop, now).State
	failed := roomy(stopped)
	failed.Procs[0].State = api.Failed
	for _, c := range []struct {
		what       string
		s          api.State
		proc, tick int
	}{
		{"process 2", s, 2, 0}, {"process -1", s, -1, 0}, {"a far process", s, math.MaxInt, 0},
		{"one that waits", waits, 0, 0}, {"one that is dormant", stopped, 0, 0}, {"one that failed", failed, 0, 0},
		{"tick 10001", s, 0, 10001}, {"tick -1", s, 0, -1}, {"a far tick", s, 0, math.MaxInt}, {"a far tick below", s, 0, math.MinInt},
	} {
		for _, call := range []int{yield, raise, -1, 15} {
			wantRefused(t, c.what, p, c.s, c.proc, call, c.tick, api.ErrArg, -1)
		}
	}
	for _, tick := range []int{0, 10000} {
		if _, err := sys.Do(p, s, 0, yield, tick); err != nil {
			t.Errorf("P12.1: tick %d: %v", tick, err)
		}
	}
	bad := roomy(s)
	bad.Ready = []int{0}
	wantRefused(t, "a state that breaks rule 7", p, bad, 9, yield, -1, api.ErrState, 7)
	bad.Id = 1
	wantRefused(t, "a state that breaks the rules 1 and 7", p, bad, 0, 99, 0, api.ErrState, 1)
	p.Procs = nil
	wantRefused(t, "no plan", p, bad, 0, yield, 0, api.ErrPlan, -1)
}

// wantRefused looks whether a call is that error, at that place (-1: without one), and answers nothing beside it.
func wantRefused(t *testing.T, what string, p api.Plan, s api.State, proc, call, tick int, want error, place int) {
	t.Helper()
	look := kept(t, s)
	got, err := sys.Do(p, s, proc, call, tick)
	if place < 0 {
		wantBare(t, "P12.1: "+what, err, want)
	} else {
		wantAt(t, "P12.1: "+what, err, want, place)
	}
	if !same(got.State, api.State{}) || got.Reports != nil || got.Fault != 0 {
		t.Errorf("P12.1: %s: beside an error %v", what, got)
	}
	look(what)
}

func TestNames(t *testing.T) {
	words := []string{"yield", "stop", "start", "sleep", "prio", "time", "raise", "set", "clear", "await", "signal", "take", "read", "write", "port"}
	counts := []int{0, 0, 1, 1, 2, 0, 1, 1, 1, 2, 1, 2, 2, 3, 2}
	for n, word := range words {
		if sys.Name(n) != word || sys.Number(word) != n || sys.Args(n) != counts[n] {
			t.Errorf("P12.5: call %d: Name %q, Number %d, Args %d; want %q, %d", n, sys.Name(n), sys.Number(word), sys.Args(n), word, counts[n])
		}
		for _, other := range []string{strings.ToUpper(word), word + " ", " " + word, word[1:], word + "s", strings.ToUpper(word[:1]) + word[1:]} {
			if got := sys.Number(other); got != -1 {
				t.Errorf("P12.5: Number(%q) = %d", other, got)
			}
		}
	}
	for _, n := range []int{-1, 15, 16, math.MinInt, math.MaxInt, 1 << 32} {
		if sys.Name(n) != "" || sys.Args(n) != 0 {
			t.Errorf("P12.5: call %d: Name %q, Args %d", n, sys.Name(n), sys.Args(n))
		}
	}
	for _, word := range []string{"", "0", "wait", "\x00"} {
		if got := sys.Number(word); got != -1 {
			t.Errorf("P12.5: Number(%q) = %d", word, got)
		}
	}
	if [4]uint32{sys.Wrong, sys.Late, sys.Full, sys.None} != [4]uint32{0xFFFFFFFF, 0xFFFFFFFE, 0xFFFFFFFD, 0xFFFFFFFC} {
		t.Errorf("P12.1: the answers are %x, %x, %x, %x", uint32(sys.Wrong), uint32(sys.Late), uint32(sys.Full), uint32(sys.None))
	}
}
