package ready_test

import (
	"math"
	"math/rand"
	"slices"
	"testing"

	"ferry/api"
	"ferry/ready"
)

// good: the chapter's rules, one by one and pair by pair.
func good(t ready.Table) bool {
	if len(t.Procs) > 8 {
		return false
	}
	for i, p := range t.Procs {
		inRange := p.Regs[0] == 0 && p.State >= 0 && p.State <= 3 && p.Prio >= 0 && p.Prio <= 255 && p.Wait >= 0 && p.Wait <= 4 && p.Obj >= 0
		noObj := p.Wait == 0 || p.Wait == 1
		times := 0
		for _, q := range t.Ready {
			if q == i {
				times++
			}
		}
		timers := slices.ContainsFunc(t.Timers, func(x api.Timer) bool { return x.Proc == i })
		switch {
		case !inRange, (p.Wait != 0) != (p.State == 2), noObj && p.Obj != 0:
			return false
		case p.State == 1 && times != 1, p.State != 1 && times != 0, p.Wait == 1 && !timers:
			return false
		}
	}
	for _, q := range t.Ready {
		if q < 0 || q > len(t.Procs)-1 {
			return false
		}
	}
	return goodTimers(t)
}

func goodTimers(t ready.Table) bool {
	for i, x := range t.Timers {
		if x.Proc < 0 || x.Proc > len(t.Procs)-1 || t.Procs[x.Proc].State != 2 || x.Due < 0 || x.Due > 1010000 {
			return false
		}
		for _, y := range t.Timers[i+1:] {
			if y.Due < x.Due || y.Due == x.Due && y.Proc <= x.Proc || y.Proc == x.Proc {
				return false
			}
		}
	}
	return true
}

func TestGood(t *testing.T) {
	if !ready.Good(ready.Table{}) || !ready.Good(ready.Table{Procs: []api.Proc{}, Ready: []int{}, Timers: []api.Timer{}}) || !ready.Good(example()) {
		t.Errorf("P9.1: a good table isn't good")
	}
	for _, c := range []struct {
		what  string
		spoil func(*ready.Table)
	}{
		{"register 0", func(t *ready.Table) { t.Procs[1].Regs[0] = 1 }},
		{"State -1", func(t *ready.Table) { t.Procs[0].State = -1 }},
		{"State 4", func(t *ready.Table) { t.Procs[0].State, t.Ready = 4, []int{1, 2} }},
		{"Prio -1", func(t *ready.Table) { t.Procs[3].Prio = -1 }},
		{"Prio 256", func(t *ready.Table) { t.Procs[3].Prio = 256 }},
		{"Wait -1", func(t *ready.Table) { t.Procs[3].Wait = -1 }},
		{"Wait 5", func(t *ready.Table) { t.Procs[3].Wait = 5 }},
		{"Waiting for nothing", func(t *ready.Table) { t.Procs[3].Wait, t.Procs[3].Obj = 0, 0 }},
		{"Ready with a Wait", func(t *ready.Table) { t.Procs[0].Wait = 2 }},
		{"Dormant with a Wait", func(t *ready.Table) { t.Procs[3].State = api.Dormant }},
		{"Failed with a Wait", func(t *ready.Table) { t.Procs[3].State = api.Failed }},
		{"Obj -1", func(t *ready.Table) { t.Procs[3].Obj = -1 }},
		{"a sleeper with an Obj", func(t *ready.Table) { t.Procs[4].Obj = 1 }},
		{"one that is Ready with an Obj", func(t *ready.Table) { t.Procs[0].Obj = 1 }},
		{"a ready one that isn't in Ready", func(t *ready.Table) { t.Ready = []int{1, 0} }},
		{"nobody in Ready", func(t *ready.Table) { t.Ready = nil }},
		{"a waiting one in Ready", func(t *ready.Table) { t.Ready = []int{1, 0, 2, 3} }},
		{"a waiting one in the place of another", func(t *ready.Table) { t.Ready = []int{1, 0, 3} }},
		{"one twice", func(t *ready.Table) { t.Ready = []int{1, 0, 2, 0} }},
		{"one twice in the place of another", func(t *ready.Table) { t.Ready = []int{1, 0, 1} }},
		{"nobody's number", func(t *ready.Table) { t.Ready = []int{1, 0, 2, 5} }},
		{"nobody's number in the place of another", func(t *ready.Table) { t.Ready = []int{1, 0, 5} }},
		{"a number below 0", func(t *ready.Table) { t.Ready = []int{1, 0, -1} }},
		{"the greatest number", func(t *ready.Table) { t.Ready = []int{1, 0, math.MaxInt} }},
		{"a sleeper without a timer", func(t *ready.Table) { t.Timers = nil }},
		{"a sleeper without a timer, another with one", func(t *ready.Table) { t.Timers = []api.Timer{{Proc: 3, Due: 10}} }},
		{"a timer of a ready one", func(t *ready.Table) { t.Timers = []api.Timer{{Proc: 0, Due: 10}, {Proc: 4, Due: 10}} }},
		{"timers that don't rise", func(t *ready.Table) { t.Timers = []api.Timer{{Proc: 4, Due: 10}, {Proc: 3, Due: 10}} }},
		{"timers that fall", func(t *ready.Table) { t.Timers = []api.Timer{{Proc: 3, Due: 11}, {Proc: 4, Due: 10}} }},
		{"two timers", func(t *ready.Table) { t.Timers = []api.Timer{{Proc: 4, Due: 10}, {Proc: 4, Due: 11}} }},
		{"a timer of nobody", func(t *ready.Table) { t.Timers = []api.Timer{{Proc: 4, Due: 10}, {Proc: 5, Due: 10}} }},
		{"a timer of -1", func(t *ready.Table) { t.Timers = []api.Timer{{Proc: -1, Due: 10}, {Proc: 4, Due: 10}} }},
		{"Due -1", func(t *ready.Table) { t.Timers[0].Due = -1 }},
		{"Due 1010001", func(t *ready.Table) { t.Timers[0].Due = 1010001 }},
		{"nine processes", func(t *ready.Table) { t.Procs = append(t.Procs, isDormant(), isDormant(), isDormant(), isDormant()) }},
	} {
		table := example()
		c.spoil(&table)
		if ready.Good(table) || good(table) {
			t.Errorf("P9.1: Good with %s", c.what)
		}
		allRefuse(t, table)
	}
}

func TestGoodEdges(t *testing.T) {
	for _, c := range []struct {
		what  string
		touch func(*ready.Table)
	}{
		{"Prio 0 and 255", func(t *ready.Table) { t.Procs[0].Prio, t.Procs[1].Prio = 0, 255 }},
		{"any Obj", func(t *ready.Table) { t.Procs[3].Obj = math.MaxInt }},
		{"any Obj of an event", func(t *ready.Table) { t.Procs[3].Wait, t.Procs[3].Obj = api.WaitEvent, 99 }},
		{"any Obj of a port", func(t *ready.Table) { t.Procs[3].Wait, t.Procs[3].Obj = api.WaitPort, 99 }},
		{"Due 0", func(t *ready.Table) { t.Timers[0].Due = 0 }},
		{"Due 1010000", func(t *ready.Table) { t.Timers[0].Due = 1010000 }},
		{"a timer of one that waits for a semaphore", func(t *ready.Table) { t.Timers = []api.Timer{{Proc: 3, Due: 10}, {Proc: 4, Due: 10}} }},
		{"eight processes", func(t *ready.Table) {
			t.Procs = append(t.Procs, isDormant(), isDormant(), api.Proc{State: api.Failed})
		}},
		{"another queue", func(t *ready.Table) { t.Ready = []int{2, 1, 0} }},
	} {
		table := example()
		c.touch(&table)
		if !ready.Good(table) || !good(table) {
			t.Errorf("P9.1: not Good with %s", c.what)
		}
	}
}

// allRefuse: every call on a table that isn't good is ErrState, with nothing beside it, whatever its arguments are.
func allRefuse(t *testing.T, table ready.Table) {
	t.Helper()
	look := kept(t, table)
	for _, arg := range []int{0, 1, 3, 4, -1, 99} {
		for _, c := range changing(arg, arg, arg, arg, 7) {
			after, err := c.do(table)
			wantBare(t, "P9.2: "+c.name+" of a table that isn't good", err, api.ErrState)
			if after.Procs != nil || after.Ready != nil || after.Timers != nil {
				t.Errorf("P9.2: %s beside an error: %v", c.name, after)
			}
		}
		best, err := ready.Best(table, arg, arg)
		wantBare(t, "P9.1: Best of a table that isn't good", err, api.ErrState)
		_, fired, fireErr := ready.Fire(table, 1<<40)
		wantBare(t, "P9.3: Fire of a table that isn't good", fireErr, api.ErrState)
		if best != 0 || fired != nil {
			t.Errorf("P9.1: beside an error: %d, %v", best, fired)
		}
	}
	p, err := ready.Pick(table)
	wantBare(t, "P9.1: Pick of a table that isn't good", err, api.ErrState)
	if p != 0 {
		t.Errorf("P9.1: Pick beside an error: %d", p)
	}
	look("a call on a table that isn't good")
}

// TestGoodOfAnyTable: one thing or several of a good table changed, against the rules.
func TestGoodOfAnyTable(t *testing.T) {
	r := rand.New(rand.NewSource(91))
	count := [2]int{}
	for range 60000 {
		table := someTable(r)
		if !ready.Good(table) {
			t.Fatalf("P9.1: not Good: %v", table)
		}
		for range 1 + r.Intn(2) {
			twist(r, &table)
		}
		is := ready.Good(table)
		if is != good(table) {
			t.Fatalf("P9.1: Good is %v of %v", is, table)
		}
		if is {
			count[1]++
		} else {
			count[0]++
		}
	}
	if count[0] < 5000 || count[1] < 5000 {
		t.Errorf("the tables are %d bad and %d good ones: too few of one sort", count[0], count[1])
	}
}

// twist changes one thing of a table.
func twist(r *rand.Rand, t *ready.Table) {
	numbers := []int{math.MinInt, -1, 0, 1, 2, 3, 4, 5, 7, 8, 255, 256, 1010000, 1010001, math.MaxInt}
	n := numbers[r.Intn(len(numbers))]
	small := r.Intn(5)
	if len(t.Procs) > 0 {
		p := &t.Procs[r.Intn(len(t.Procs))]
		switch r.Intn(12) {
		case 0:
			p.Regs[r.Intn(2)] = uint32(small)
		case 1:
			p.State = small
		case 2:
			p.Prio = n
		case 3:
			p.Wait = small
		case 4:
			p.Obj = n
		case 5:
			p.State, p.Wait = api.Waiting, small
		}
	}
	switch r.Intn(12) {
	case 0:
		t.Ready = append(slices.Clone(t.Ready), n)
	case 1:
		t.Ready = t.Ready[:len(t.Ready)/2]
	case 2:
		slices.Reverse(t.Ready)
	case 3:
		t.Timers = append(slices.Clone(t.Timers), api.Timer{Proc: small, Due: n})
	case 4:
		t.Timers = t.Timers[:len(t.Timers)/2]
	case 5:
		slices.Reverse(t.Timers)
	case 6:
		t.Procs = append(slices.Clone(t.Procs), isDormant())
	}
}
