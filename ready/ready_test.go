package ready_test

import (
	"math"
	"slices"
	"testing"

	"ferry/api"
	"ferry/ready"
)

func TestPick(t *testing.T) {
	table := example()
	if p, err := ready.Pick(table); p != 2 || err != nil {
		t.Errorf("P9.1: Pick = %d, %v", p, err)
	}
	halted, err := ready.Halt(table, 2, api.Dormant)
	wantBare(t, "P9.2: Halt", err, nil)
	if p, err := ready.Pick(halted); p != 1 || err != nil {
		t.Errorf("P9.1: Pick behind Halt = %d, %v", p, err)
	}
	ranked, err := ready.Rank(table, 2, 1)
	wantBare(t, "P9.2: Rank", err, nil)
	if p, err := ready.Pick(ranked); p != 1 || err != nil {
		t.Errorf("P9.1: Pick behind Rank = %d, %v", p, err)
	}
	for _, table := range []ready.Table{{}, {Procs: []api.Proc{isDormant(), waits(api.WaitEvent, 0, 9)}}} {
		p, err := ready.Pick(table)
		wantBare(t, "P9.1: Pick of nobody", err, api.ErrNone)
		if p != 0 {
			t.Errorf("P9.1: Pick of nobody = %d", p)
		}
	}
	// Who waits or is dormant doesn't run, whatever its Prio.
	table = ready.Table{Procs: []api.Proc{isReady(0), {Prio: 255}, waits(api.WaitSem, 0, 255)}, Ready: []int{0}}
	if p, err := ready.Pick(table); p != 0 || err != nil {
		t.Errorf("P9.1: Pick of the only one = %d, %v", p, err)
	}
}

func TestYield(t *testing.T) {
	want := example()
	want.Ready = []int{0, 2, 1}
	got, err := ready.Yield(example(), 1)
	wantBare(t, "P9.2: Yield", err, nil)
	wantTable(t, "P9.2: Yield", got, want)
	for _, proc := range []int{3, 4, 5, -1, math.MaxInt, math.MinInt} {
		got, err := ready.Yield(example(), proc)
		wantBare(t, "P9.2: Yield", err, api.ErrArg)
		wantTable(t, "P9.2: Yield beside an error", got, ready.Table{})
	}
	_, err = ready.Yield(ready.Table{}, 0)
	wantBare(t, "P9.2: Yield in the empty table", err, api.ErrArg)
}

func TestBlock(t *testing.T) {
	for _, c := range []struct {
		wait, obj, due int
		timers         []api.Timer
	}{
		{api.WaitEvent, 2, 10, []api.Timer{{Proc: 0, Due: 10}, {Proc: 4, Due: 10}}}, {api.WaitEvent, 2, -1, []api.Timer{{Proc: 4, Due: 10}}},
		{api.WaitSleep, 0, 11, []api.Timer{{Proc: 4, Due: 10}, {Proc: 0, Due: 11}}}, {api.WaitSem, 0, 0, []api.Timer{{Proc: 0, Due: 0}, {Proc: 4, Due: 10}}},
		{api.WaitPort, math.MaxInt, 1010000, []api.Timer{{Proc: 4, Due: 10}, {Proc: 0, Due: 1010000}}}, {api.WaitSleep, 0, 0, []api.Timer{{Proc: 0, Due: 0}, {Proc: 4, Due: 10}}},
	} {
		table := example()
		table.Procs[0].Regs[7], table.Procs[0].Pc = 70, 8
		want := example()
		want.Procs[0] = waits(c.wait, c.obj, 5)
		want.Procs[0].Regs[7], want.Procs[0].Pc = 70, 8
		want.Ready, want.Timers = []int{1, 2}, c.timers
		got, err := ready.Block(table, 0, c.wait, c.obj, c.due)
		wantBare(t, "P9.2: Block", err, nil)
		wantTable(t, "P9.2: Block", got, want)
	}
	for _, c := range [][4]int{
		{0, api.WaitSleep, 1, 5}, {0, api.WaitSleep, 0, -1}, {0, 0, 0, 5}, {0, 5, 0, 5}, {0, -1, 0, 5}, {0, api.WaitEvent, -1, 5}, {0, api.WaitEvent, 0, -2}, {0, api.WaitEvent, 0, 1010001},
		{3, api.WaitEvent, 0, 5}, {4, api.WaitEvent, 0, 5}, {5, api.WaitEvent, 0, 5}, {-1, api.WaitEvent, 0, 5}, {0, api.WaitSem, 0, math.MaxInt}, {0, api.WaitSem, 0, math.MinInt},
		{0, api.WaitPort, math.MinInt, 5}, {0, math.MaxInt, 0, 5}, {math.MaxInt, api.WaitPort, 0, 5}, {0, api.WaitSleep, 0, 1010001}, {0, api.WaitSleep, 0, -2},
	} {
		got, err := ready.Block(example(), c[0], c[1], c[2], c[3])
		wantBare(t, "P9.2: Block", err, api.ErrArg)
		wantTable(t, "P9.2: Block beside an error", got, ready.Table{})
	}
}

func TestWake(t *testing.T) {
	want := example()
	want.Procs[3] = isReady(3)
	want.Procs[3].Regs[1] = 7
	want.Ready = []int{1, 0, 2, 3}
	got, err := ready.Wake(example(), 3, 7)
	wantBare(t, "P9.2: Wake", err, nil)
	wantTable(t, "P9.2: Wake", got, want)
	want = example()
	want.Procs[4] = isReady(3)
	want.Procs[4].Regs[1] = math.MaxUint32
	want.Ready, want.Timers = []int{1, 0, 2, 4}, nil
	got, err = ready.Wake(example(), 4, math.MaxUint32)
	wantBare(t, "P9.2: Wake of a sleeper", err, nil)
	wantTable(t, "P9.2: Wake of a sleeper", got, want)
	table := example()
	table.Procs[2], table.Ready = isDormant(), []int{1, 0}
	for _, proc := range []int{0, 2, 5, -1, math.MaxInt} {
		got, err := ready.Wake(table, proc, 7)
		wantBare(t, "P9.2: Wake", err, api.ErrArg)
		wantTable(t, "P9.2: Wake beside an error", got, ready.Table{})
	}
}

func TestHalt(t *testing.T) {
	for _, state := range []int{api.Dormant, api.Failed} {
		table, want := example(), example()
		table.Procs[0].Regs[9], table.Procs[0].Pc = 90, 12
		want.Procs[0] = table.Procs[0]
		want.Procs[0].State, want.Ready = state, []int{1, 2}
		got, err := ready.Halt(table, 0, state)
		wantBare(t, "P9.2: Halt", err, nil)
		wantTable(t, "P9.2: Halt", got, want)
	}
	for _, c := range [][2]int{{0, api.Ready}, {0, api.Waiting}, {0, 4}, {0, -1}, {3, api.Dormant}, {4, api.Failed}, {5, api.Dormant}, {-1, api.Dormant}} {
		got, err := ready.Halt(example(), c[0], c[1])
		wantBare(t, "P9.2: Halt", err, api.ErrArg)
		wantTable(t, "P9.2: Halt beside an error", got, ready.Table{})
	}
	table := ready.Table{Procs: []api.Proc{isDormant()}}
	_, err := ready.Halt(table, 0, api.Failed)
	wantBare(t, "P9.2: Halt of a dormant one", err, api.ErrArg)
}

func TestStart(t *testing.T) {
	for _, state := range []int{api.Dormant, api.Failed} {
		for _, prio := range []int{0, 7, 255} {
			table := example()
			old := api.Proc{State: state, Prio: 200, Pc: 44}
			for i := 1; i < 16; i++ {
				old.Regs[i] = uint32(i)
			}
			table.Procs = append(table.Procs, old)
			want := example()
			want.Procs = append(want.Procs, api.Proc{Pc: 64, State: api.Ready, Prio: prio})
			want.Ready = []int{1, 0, 2, 5}
			got, err := ready.Start(table, 5, 64, prio)
			wantBare(t, "P9.2: Start", err, nil)
			wantTable(t, "P9.2: Start", got, want)
		}
	}
	table := example()
	table.Procs = append(table.Procs, isDormant())
	for _, c := range [][2]int{{0, 5}, {3, 5}, {4, 5}, {5, 300}, {5, 256}, {5, -1}, {6, 5}, {-1, 5}, {5, math.MaxInt}} {
		got, err := ready.Start(table, c[0], 64, c[1])
		wantBare(t, "P9.2: Start", err, api.ErrArg)
		wantTable(t, "P9.2: Start beside an error", got, ready.Table{})
	}
}

func TestRank(t *testing.T) {
	table := example()
	table.Procs = append(table.Procs, isDormant(), api.Proc{State: api.Failed, Prio: 3})
	for proc := range table.Procs {
		for _, prio := range []int{0, 5, 255} {
			want := ready.Table{Procs: slices.Clone(table.Procs), Ready: table.Ready, Timers: table.Timers}
			want.Procs[proc].Prio = prio
			got, err := ready.Rank(table, proc, prio)
			wantBare(t, "P9.2: Rank", err, nil)
			wantTable(t, "P9.2: Rank", got, want)
		}
	}
	for _, c := range [][2]int{{0, -1}, {0, 256}, {7, 5}, {-1, 5}, {math.MaxInt, 5}, {0, math.MaxInt}, {0, math.MinInt}} {
		got, err := ready.Rank(table, c[0], c[1])
		wantBare(t, "P9.2: Rank", err, api.ErrArg)
		wantTable(t, "P9.2: Rank beside an error", got, ready.Table{})
	}
}

func TestWaitersAndBest(t *testing.T) {
	table := example()
	if got := ready.Waiters(table, api.WaitSem, 1); !slices.Equal(got, []int{3}) {
		t.Errorf("P9.1: Waiters = %v", got)
	}
	for _, c := range [][2]int{{api.WaitSem, 0}, {api.WaitEvent, 1}, {0, 0}, {9, 1}, {api.WaitSleep, 1}, {-1, -1}} {
		if got := ready.Waiters(table, c[0], c[1]); len(got) != 0 {
			t.Errorf("P9.1: Waiters(%v) = %v", c, got)
		}
		p, err := ready.Best(table, c[0], c[1])
		wantBare(t, "P9.1: Best of nobody", err, api.ErrNone)
		if p != 0 {
			t.Errorf("P9.1: Best of nobody = %d", p)
		}
	}
	if got := ready.Waiters(table, api.WaitSleep, 0); !slices.Equal(got, []int{4}) {
		t.Errorf("P9.1: Waiters of a sleep = %v", got)
	}
	table.Procs = append(table.Procs, waits(api.WaitSem, 1, 3))
	for _, c := range [][2]int{{3, 3}, {4, 5}, {2, 3}, {255, 5}, {0, 3}} {
		table.Procs[5].Prio = c[0]
		if p, err := ready.Best(table, api.WaitSem, 1); p != c[1] || err != nil {
			t.Errorf("P9.1: Best with Prio %d = %d, %v", c[0], p, err)
		}
	}
}

// TestWaitersOfAnyTable: who has the three fields, be the table good or not.
func TestWaitersOfAnyTable(t *testing.T) {
	table := ready.Table{Ready: []int{0, 0, 99}, Timers: []api.Timer{{Proc: -1, Due: -1}}}
	for range 5 {
		table.Procs = append(table.Procs, waits(77, -3, 1000), isReady(-1), waits(77, -3, -1), api.Proc{State: api.Ready, Wait: 77, Obj: -3}, waits(77, -4, 1), waits(76, -3, 1))
	}
	if got := ready.Waiters(table, 77, -3); !slices.Equal(got, []int{0, 2, 6, 8, 12, 14, 18, 20, 24, 26}) {
		t.Errorf("P9.1: Waiters of any table = %v", got)
	}
	if got := ready.Waiters(ready.Table{}, 0, 0); len(got) != 0 {
		t.Errorf("P9.1: Waiters of the empty table = %v", got)
	}
}

func TestWakeAll(t *testing.T) {
	table := example()
	table.Procs = append(table.Procs, waits(api.WaitSem, 1, 200), waits(api.WaitSem, 0, 3))
	table.Timers = []api.Timer{{Proc: 5, Due: 3}, {Proc: 4, Due: 10}, {Proc: 6, Due: 10}, {Proc: 3, Due: 12}}
	want := roomy(table)
	for proc, prio := range map[int]int{3: 3, 5: 200} {
		want.Procs[proc] = isReady(prio)
		want.Procs[proc].Regs[1] = 8
	}
	want.Ready, want.Timers = []int{1, 0, 2, 3, 5}, []api.Timer{{Proc: 4, Due: 10}, {Proc: 6, Due: 10}}
	got, err := ready.WakeAll(table, api.WaitSem, 1, 8)
	wantBare(t, "P9.3: WakeAll", err, nil)
	wantTable(t, "P9.3: WakeAll", got, want)
	for _, c := range [][2]int{{api.WaitEvent, 1}, {api.WaitSem, 2}, {0, 0}, {-1, -1}, {99, 99}} {
		got, err := ready.WakeAll(table, c[0], c[1], 8)
		wantBare(t, "P9.3: WakeAll of nobody", err, nil)
		wantTable(t, "P9.3: WakeAll of nobody", got, table)
	}
}

func TestFire(t *testing.T) {
	for _, now := range []int{9, 0, -1, math.MinInt} {
		got, fired, err := ready.Fire(example(), now)
		wantBare(t, "P9.3: Fire", err, nil)
		wantTable(t, "P9.3: Fire ahead of every Due", got, example())
		if len(fired) != 0 {
			t.Errorf("P9.3: Fire at %d = %v", now, fired)
		}
	}
	for _, now := range []int{10, 11, math.MaxInt} {
		want := example()
		want.Procs[4] = isReady(3)
		want.Ready, want.Timers = []int{1, 0, 2, 4}, nil
		table := example()
		table.Procs[4].Regs[1] = 99
		got, fired, err := ready.Fire(table, now)
		wantBare(t, "P9.3: Fire", err, nil)
		wantTable(t, "P9.3: Fire", got, want)
		if !slices.Equal(fired, []int{4}) {
			t.Errorf("P9.3: Fire at %d = %v", now, fired)
		}
	}
}

// TestFireInOrder: the timers' order is the order of waking, whatever the numbers and priorities are; a time-out is told, a sleeper's end not.
func TestFireInOrder(t *testing.T) {
	table := ready.Table{
		Procs:  []api.Proc{waits(api.WaitEvent, 3, 9), waits(api.WaitSem, 1, 1), waits(api.WaitSleep, 0, 1), waits(api.WaitPort, 2, 200), isReady(4)},
		Ready:  []int{4},
		Timers: []api.Timer{{Proc: 3, Due: 5}, {Proc: 1, Due: 7}, {Proc: 2, Due: 7}, {Proc: 0, Due: 8}},
	}
	got, fired, err := ready.Fire(table, 7)
	wantBare(t, "P9.3: Fire", err, nil)
	want := ready.Table{
		Procs:  []api.Proc{waits(api.WaitEvent, 3, 9), isReady(1), isReady(1), isReady(200), isReady(4)},
		Ready:  []int{4, 3, 1, 2},
		Timers: []api.Timer{{Proc: 0, Due: 8}},
	}
	want.Procs[1].Regs[1], want.Procs[3].Regs[1] = 4294967294, 4294967294
	wantTable(t, "P9.3: Fire", got, want)
	if !slices.Equal(fired, []int{3, 1, 2}) {
		t.Errorf("P9.3: Fire = %v", fired)
	}
}
