package ready_test

import (
	"math/rand"
	"slices"
	"testing"

	"ferry/api"
	"ferry/ready"
)

// model is a table kept another way: of each process its place in the queue (0: none) and its Due (-1: no timer).
type model struct {
	procs []api.Proc
	turn  []int
	due   []int
	last  int
}

func modelOf(t ready.Table) *model {
	m := &model{procs: slices.Clone(t.Procs), turn: make([]int, len(t.Procs)), due: make([]int, len(t.Procs))}
	for i := range m.due {
		m.due[i] = -1
	}
	for _, p := range t.Ready {
		m.tail(p)
	}
	for _, x := range t.Timers {
		m.due[x.Proc] = x.Due
	}
	return m
}

func (m *model) tail(proc int) {
	m.last++
	m.turn[proc] = m.last
}

func (m *model) table() ready.Table {
	t := ready.Table{Procs: m.procs}
	for turn := 1; turn <= m.last; turn++ {
		if p := slices.Index(m.turn, turn); p >= 0 {
			t.Ready = append(t.Ready, p)
		}
	}
	for p, due := range m.due {
		if due >= 0 {
			t.Timers = append(t.Timers, api.Timer{Proc: p, Due: due})
		}
	}
	sortTimers(t.Timers)
	return t
}

func (m *model) wake(proc int, r1 uint32) {
	p := m.procs[proc]
	p.Regs[1] = r1
	m.procs[proc] = api.Proc{Regs: p.Regs, Pc: p.Pc, Prio: p.Prio, State: api.Ready}
	m.due[proc] = -1
	m.tail(proc)
}

// is: has the process one of these states?
func (m *model) is(proc int, states ...int) bool {
	return proc >= 0 && proc < len(m.procs) && slices.Contains(states, m.procs[proc].State)
}

// do does the call of that name, with arguments as in changing; may it?
func (m *model) do(name string, proc, a, b, c int, r1 uint32) bool {
	switch name {
	case "Yield":
		if !m.is(proc, 1) {
			return false
		}
		m.tail(proc)
	case "Block":
		return m.block(proc, a, b, c)
	case "Wake":
		if !m.is(proc, 2) {
			return false
		}
		m.wake(proc, r1)
	case "Halt":
		if !m.is(proc, 1) || a != 0 && a != 3 {
			return false
		}
		m.procs[proc].State, m.turn[proc] = a, 0
	case "Start":
		if !m.is(proc, 0, 3) || a < 0 || a > 255 {
			return false
		}
		m.procs[proc] = api.Proc{State: 1, Prio: a, Pc: r1}
		m.tail(proc)
	case "Rank":
		if !m.is(proc, 0, 1, 2, 3) || a < 0 || a > 255 {
			return false
		}
		m.procs[proc].Prio = a
	case "WakeAll":
		for i, p := range m.procs {
			if p.State == 2 && p.Wait == a && p.Obj == b {
				m.wake(i, r1)
			}
		}
	case "Fire":
		for _, x := range m.table().Timers {
			if x.Due <= c && m.procs[x.Proc].Wait == 1 {
				m.wake(x.Proc, 0)
			} else if x.Due <= c {
				m.wake(x.Proc, 0xFFFFFFFE)
			}
		}
	}
	return true
}

func (m *model) block(proc, wait, obj, due int) bool {
	if !m.is(proc, 1) || wait < 1 || wait > 4 || obj < 0 || due < -1 || due > 1010000 {
		return false
	}
	if wait == 1 && (obj != 0 || due == -1) {
		return false
	}
	p := &m.procs[proc]
	p.State, p.Wait, p.Obj = 2, wait, obj
	m.turn[proc], m.due[proc] = 0, due
	return true
}

// pick: of those that this test takes the one with the greatest Prio, then by the least of the order; -1: none.
func (m *model) pick(takes func(api.Proc) bool, order func(proc int) int) int {
	best := -1
	for i, p := range m.procs {
		if takes(p) && (best < 0 || p.Prio > m.procs[best].Prio || p.Prio == m.procs[best].Prio && order(i) < order(best)) {
			best = i
		}
	}
	return best
}

// TestAgainstAModel: rows of calls on good tables, each held against the model: P9.1, P9.2, P9.3, P9.5.
func TestAgainstAModel(t *testing.T) {
	r := rand.New(rand.NewSource(92))
	done := map[string]int{}
	for range 4000 {
		table := someTable(r)
		for range 12 {
			proc, r1 := r.Intn(10)-1, r.Uint32()
			a := []int{0, 1, 2, 3, 4, 3, 5, -1, 255, 256}[r.Intn(10)]
			b := []int{0, 0, 0, 1, 2, -1}[r.Intn(6)]
			c := []int{-2, -1, 0, 1, 2, 3, 9999, 10000, 1010000, 1010001}[r.Intn(10)]
			all := changing(proc, a, b, c, r1)
			call := all[r.Intn(len(all))]
			m := modelOf(table)
			want, ok := api.ErrArg, m.do(call.name, proc, a, b, c, r1)
			look := kept(t, table)
			got, err := call.do(table)
			again, _ := call.do(table)
			if !ok {
				wantBare(t, "P9.2: "+call.name, err, want)
				wantTable(t, "P9.2: "+call.name+" beside an error", got, ready.Table{})
				continue
			}
			wantBare(t, "P9.2: "+call.name, err, nil)
			wantTable(t, "P9.2: "+call.name, got, m.table())
			if !ready.Good(got) || !good(got) {
				t.Errorf("P9.2: %s answers a table that isn't good", call.name)
			}
			spoil(again)
			look(call.name)
			wantTable(t, "P9.5: "+call.name+" with another answer overwritten", got, m.table())
			done[call.name]++
			table = roomy(got)
			askModel(t, table, m, a, b)
		}
		if t.Failed() {
			return
		}
	}
	for _, c := range changing(0, 0, 0, 0, 0) {
		if done[c.name] < 200 {
			t.Errorf("%s was done only %d times", c.name, done[c.name])
		}
	}
}

// askModel: the calls that change nothing.
func askModel(t *testing.T, table ready.Table, m *model, wait, obj int) {
	t.Helper()
	look := kept(t, table)
	want := m.pick(func(p api.Proc) bool { return p.State == 1 }, func(proc int) int { return m.turn[proc] })
	p, err := ready.Pick(table)
	wantOne(t, "Pick", p, err, want)
	waiting := func(p api.Proc) bool { return p.State == 2 && p.Wait == wait && p.Obj == obj }
	want = m.pick(waiting, func(proc int) int { return proc })
	p, err = ready.Best(table, wait, obj)
	wantOne(t, "Best", p, err, want)
	var waiters []int
	for i, p := range m.procs {
		if waiting(p) {
			waiters = append(waiters, i)
		}
	}
	if got := ready.Waiters(table, wait, obj); !slices.Equal(got, waiters) {
		t.Errorf("P9.1: Waiters = %v, want %v", got, waiters)
	}
	look("Pick, Best, Waiters")
}

func wantOne(t *testing.T, what string, got int, err error, want int) {
	t.Helper()
	if want < 0 {
		wantBare(t, "P9.1: "+what, err, api.ErrNone)
		want = 0
	} else {
		wantBare(t, "P9.1: "+what, err, nil)
	}
	if got != want {
		t.Errorf("P9.1: %s = %d, want %d", what, got, want)
	}
}

// TestFireOfAnyTable: P9.3. Who fires is told in the timers' order, and nobody is left who was due.
func TestFireOfAnyTable(t *testing.T) {
	r := rand.New(rand.NewSource(93))
	for range 5000 {
		table := someTable(r)
		now := someDue(r) - r.Intn(2)
		var want []int
		for _, x := range table.Timers {
			if x.Due <= now {
				want = append(want, x.Proc)
			}
		}
		got, fired, err := ready.Fire(table, now)
		wantBare(t, "P9.3: Fire", err, nil)
		if !slices.Equal(fired, want) || !slices.Equal(got.Ready, append(slices.Clone(table.Ready), want...)) {
			t.Errorf("P9.3: Fire at %d = %v, Ready %v, want %v", now, fired, got.Ready, want)
		}
		for _, x := range got.Timers {
			if x.Due <= now {
				t.Errorf("P9.3: behind Fire at %d there is %v", now, x)
			}
		}
		// The numbers are a list of their own.
		queue := slices.Clone(got.Ready)
		for i := range whole(fired) {
			whole(fired)[i] = -77
		}
		if !slices.Equal(got.Ready, queue) {
			t.Errorf("P9.5: the numbers that fired and Ready share memory")
		}
	}
}

// TestInTurn: P9.4.
func TestInTurn(t *testing.T) {
	r := rand.New(rand.NewSource(94))
	for range 400 {
		table := someTable(r)
		top, err := ready.Pick(table)
		if err != nil {
			continue
		}
		var equals []int
		for _, p := range table.Ready {
			if table.Procs[p].Prio == table.Procs[top].Prio {
				equals = append(equals, p)
			}
		}
		for round := range 3 {
			var picked []int
			for range equals {
				p, err := ready.Pick(table)
				wantBare(t, "P9.4: Pick", err, nil)
				picked = append(picked, p)
				table, err = ready.Yield(table, p)
				wantBare(t, "P9.4: Yield", err, nil)
			}
			if !slices.Equal(picked, equals) {
				t.Errorf("P9.4: round %d: picked %v, want %v", round, picked, equals)
			}
		}
	}
}
