package sys_test

import (
	"math/rand"
	"slices"
	"testing"

	"ferry/api"
	"ferry/page"
	"ferry/sys"
	"ferry/valid"
)

// model is a second kernel: it goes by the words of the table, with numbers as ints, and by itself.
type model struct {
	plan    api.Plan
	s       api.State
	me, now int
	reports []api.Report
}

func (m *model) says(v int) { m.s.Procs[m.me].Regs[1] = uint32(v) }

func (m *model) tail(i int) {
	m.out(i)
	m.s.Ready = append(m.s.Ready, i)
}

// out: out of Ready, and its timer gone.
func (m *model) out(i int) {
	m.s.Ready = slices.DeleteFunc(m.s.Ready, func(k int) bool { return k == i })
	m.s.Timers = slices.DeleteFunc(m.s.Timers, func(x api.Timer) bool { return x.Proc == i })
}

func (m *model) wake(i int) {
	m.tail(i)
	m.s.Procs[i] = woken(m.s.Procs[i], 0)
}

// sleepers: who waits for the thing.
func (m *model) sleepers(wait, obj int) []int {
	var all []int
	for i := range m.s.Procs {
		if q := m.s.Procs[i]; q.Wait == wait && q.Obj == obj {
			all = append(all, i)
		}
	}
	return all
}

// wait: with the time-out n for the thing.
func (m *model) wait(wait, obj, n int) {
	if n == 0 {
		m.says(1<<32 - 2)
		return
	}
	m.out(m.me)
	q := &m.s.Procs[m.me]
	q.State, q.Wait, q.Obj = 2, wait, obj
	if n < 1<<32-1 {
		m.s.Timers = append(m.s.Timers, api.Timer{Proc: m.me, Due: m.now + n})
		slices.SortFunc(m.s.Timers, func(a, b api.Timer) int { return (a.Due-b.Due)*100 + a.Proc - b.Proc })
	}
}

// faultOf: of the bytes from the address on, each by itself.
func (m *model) faultOf(addr, n, bit, fault int) int {
	for i := addr; i < addr+n; i++ {
		if i >= 64*len(m.s.Pages) {
			return api.FaultPage
		}
		if m.s.Pages[i/64].Rights>>bit&1 == 0 {
			return fault
		}
	}
	return 0
}

// wrong: is one of the registers that the call reads wrong?
func (m *model) wrong(call int, r [4]int) bool {
	timeOut := r[2] > 1000000 && r[2] != 1<<32-1
	kind, size := 0, 0
	if r[1] < len(m.plan.Ports) {
		kind, size = m.plan.Ports[r[1]].Kind, m.plan.Ports[r[1]].Size
	}
	switch call {
	case start:
		return r[1] >= len(m.s.Procs) || m.s.Procs[r[1]].State == 1 || m.s.Procs[r[1]].State == 2
	case sleep:
		return r[1] > 1000000
	case prio:
		return r[1] >= len(m.s.Procs) || r[2] > 255
	case set, clears:
		return r[1] >= m.plan.Events
	case await:
		return r[1] >= m.plan.Events || timeOut
	case signal:
		return r[1] >= len(m.plan.Sems)
	case take:
		return r[1] >= len(m.plan.Sems) || timeOut
	case read:
		return kind != 1 && kind != 3
	case write:
		return kind != 2 && kind != 4 || r[3] > size
	case port:
		return kind < 3 || timeOut
	}
	return false
}

// do makes the call; it answers the fault.
func (m *model) do(call int) int {
	if call < 0 || call > 14 {
		return 8
	}
	var r [4]int
	for i := range r {
		r[i] = int(m.s.Procs[m.me].Regs[i])
	}
	if m.wrong(call, r) {
		m.says(1<<32 - 1)
		return 0
	}
	switch call {
	case stop:
		m.out(m.me)
		m.s.Procs[m.me].State = 0
	case sleep:
		if r[1] > 0 {
			m.wait(1, 0, r[1])
			break
		}
		fallthrough
	case yield:
		m.says(0)
		m.tail(m.me)
	case start:
		m.says(0)
		m.s.Procs[r[1]] = api.Proc{Pc: uint32(m.plan.Procs[r[1]].Entry), State: 1, Prio: m.plan.Procs[r[1]].Prio}
		m.tail(r[1])
	case prio:
		m.says(0)
		m.s.Procs[r[1]].Prio = r[2]
	case tell:
		m.says(m.now)
		m.s.Procs[m.me].Regs[2] = uint32(m.s.Frame)
	case raise:
		m.reports = []api.Report{{Kind: 2, Proc: m.me, Code: uint32(r[1]), Pc: uint32(int(m.s.Procs[m.me].Pc) + 1<<32 - 4)}}
		m.says(0)
	case read, write:
		return m.move(call, r)
	default:
		m.things(call, r)
	}
	return 0
}

// things: the calls of events, semaphores and queuing ports.
func (m *model) things(call int, r [4]int) {
	switch call {
	case set:
		m.s.Up[r[1]] = true
		for _, i := range m.sleepers(2, r[1]) {
			m.wake(i)
		}
		m.says(0)
	case clears:
		m.s.Up[r[1]] = false
		m.says(0)
	case await:
		if m.says(0); !m.s.Up[r[1]] {
			m.s.Procs[m.me].Regs[1] = uint32(r[1])
			m.wait(2, r[1], r[2])
		}
	case signal:
		m.says(0)
		best := -1
		for _, i := range m.sleepers(3, r[1]) {
			if best < 0 || m.s.Procs[i].Prio > m.s.Procs[best].Prio {
				best = i
			}
		}
		if best >= 0 {
			m.wake(best)
		} else if m.s.Sems[r[1]]++; m.s.Sems[r[1]] == 256 {
			m.s.Sems[r[1]] = 255
			m.says(1<<32 - 3)
		}
	case take:
		if m.s.Sems[r[1]] == 0 {
			m.wait(3, r[1], r[2])
		} else {
			m.s.Sems[r[1]]--
			m.says(0)
		}
	case port:
		held := len(m.s.Ports[r[1]].Msgs)
		if m.plan.Ports[r[1]].Kind == 3 && held > 0 || m.plan.Ports[r[1]].Kind == 4 && held < m.plan.Ports[r[1]].Depth {
			m.says(0)
		} else {
			m.wait(4, r[1], r[2])
		}
	}
}

// move: messages between memory and ports.
func (m *model) move(call int, r [4]int) int {
	x, q := m.plan.Ports[r[1]], &m.s.Ports[r[1]]
	if call == read {
		if len(q.Msgs) == 0 {
			m.says(1<<32 - 4)
			return 0
		}
		data := q.Msgs[0]
		if f := m.faultOf(r[2], len(data), 1, api.FaultWrite); f != 0 {
			return f
		}
		for i := range len(data) {
			at := &m.s.Pages[(r[2]+i)/64]
			at.Data[(r[2]+i)%64], at.Dirty = data[i], true
		}
		m.says(len(data))
		m.s.Procs[m.me].Regs[2] = 1
		if x.Kind == 3 {
			q.Msgs = slices.Clone(q.Msgs[1:])
		} else if q.Age >= x.Refresh {
			m.s.Procs[m.me].Regs[2] = 0
		}
		return 0
	}
	if x.Kind == 4 && len(q.Msgs) == x.Depth {
		m.says(1<<32 - 3)
		return 0
	}
	if f := m.faultOf(r[2], r[3], 0, api.FaultRead); f != 0 {
		return f
	}
	var data []byte
	for i := range r[3] {
		data = append(data, m.s.Pages[(r[2]+i)/64].Data[(r[2]+i)%64])
	}
	if x.Kind == 2 {
		q.Msgs = nil
	}
	q.Msgs = append(q.Msgs, string(data))
	m.says(0)
	return 0
}

// someRegs lays arguments into r1 to r3 that are often right, now and then at an edge, seldom far off.
func someRegs(r *rand.Rand, p api.Plan, s api.State, proc, call int) {
	regs := &s.Procs[proc].Regs
	regs[1] = uint32(one(r, 0, 0, 1, 1, 2, 3, 4, r.Intn(10)))
	regs[2] = uint32(one(r, 0, 1, 7, 255, 256, 999999, 1000000, 1000001, 0xFFFFFFFE, 0xFFFFFFFF))
	regs[3] = uint32(one(r, 0, 1, 3, 4, 5, 31, 32, 33, 0xFFFFFFFF))
	if call == read || call == write {
		for i, q := range p.Ports {
			if (q.Kind == 1 || q.Kind == 3) == (call == read) && r.Intn(2) == 0 {
				regs[1] = uint32(i)
			}
		}
		regs[2] = uint32(one(r, r.Intn(200), r.Intn(64), 60, 63, 64, 127, 128, 0xFFFFFFE0, 0xFFFFFFFF))
	}
	if call == sleep && r.Intn(2) == 0 {
		regs[1] = regs[2]
	}
	for i := range regs {
		if i > 0 && r.Intn(25) == 0 {
			regs[i] = r.Uint32()
		}
	}
}

// wantUntouched: P12.2, of the states ahead of a call and behind it.
func wantUntouched(t *testing.T, proc, call int, a, b api.State) {
	t.Helper()
	fits := a.Id == b.Id && a.Frame == b.Frame && a.Epoch == b.Epoch
	fits = fits && (call == read || slices.Equal(a.Pages, b.Pages))
	fits = fits && (call == read || call == write || samePorts(a.Ports, b.Ports))
	fits = fits && (call == set || call == clears || slices.Equal(a.Up, b.Up))
	fits = fits && (call == signal || call == take || slices.Equal(a.Sems, b.Sems))
	for i := range a.Pages {
		fits = fits && a.Pages[i].Rights == b.Pages[i].Rights
	}
	for i := range a.Procs {
		mayTouch := i == proc || call == start || call == prio || call == set || call == signal
		fits = fits && (mayTouch || a.Procs[i] == b.Procs[i])
	}
	if !fits {
		t.Errorf("P12.2: call %d touches what it doesn't name:\n%v\n%v", call, a, b)
	}
}

// TestAgainstModel: every call in any state, by any process, at any tick.
func TestAgainstModel(t *testing.T) {
	r := rand.New(rand.NewSource(121))
	seen := map[[3]int]int{}
	for n := range 120000 {
		p := somePlan(r)
		s := someState(r, p)
		proc, call, tick := one(r, s.Ready...), r.Intn(15), one(r, 0, 1, 9999, 10000, r.Intn(10001))
		if r.Intn(60) == 0 {
			call = one(r, -1, 15, 99)
		}
		someRegs(r, p, s, proc, call)
		if valid.Check(p, s) != nil {
			t.Fatalf("the state isn't in form: %v", valid.Faults(p, s))
		}
		m := &model{plan: p, s: trimmed(s), me: proc, now: tick}
		fault := m.do(call)
		look, lookPlan := kept(t, s), keptPlan(t, p)
		got, err := sys.Do(p, s, proc, call, tick)
		if err != nil || got.Fault != fault || !slices.Equal(got.Reports, m.reports) || !same(got.State, m.s) {
			t.Fatalf("P12.1: call %d by %d at %d of\n%v\n%v:\n%v, %v, want\n%v, %v, fault %d", call, proc, tick, p, s, got, err, m.s, m.reports, fault)
		}
		if err := valid.Check(p, got.State); err != nil {
			t.Fatalf("P12.1: call %d by %d of %v: the state that is answered breaks rule %d", call, proc, s, api.Place(err))
		}
		wantUntouched(t, proc, call, s, got.State)
		if n%8 == 0 {
			wantApart(t, "P12.6: a call", p, s, got)
		}
		look("a call")
		lookPlan("a call")
		seen[outcome(got, proc, call)]++
	}
	wantOutcomes(t, seen)
}

// trimmed: the state as new memory, without spare room.
func trimmed(s api.State) api.State {
	s.Procs, s.Ready, s.Timers = slices.Clone(s.Procs), slices.Clone(s.Ready), slices.Clone(s.Timers)
	s.Up, s.Sems, s.Pages = slices.Clone(s.Up), slices.Clone(s.Sems), slices.Clone(s.Pages)
	s.Ports = slices.Clone(s.Ports)
	for i := range s.Ports {
		s.Ports[i].Msgs = slices.Clone(s.Ports[i].Msgs)
	}
	return s
}

// outcome: what a call came to: the call, its fault, and 0 to 3 for its answer from Wrong down, 4 for another, 5 where the caller waits.
func outcome(got sys.Result, proc, call int) [3]int {
	q := got.State.Procs[proc]
	answer := min(int(0xFFFFFFFF-q.Regs[1]), 4)
	if q.State == api.Waiting {
		answer = 5
	}
	if got.Fault != 0 {
		answer = 0
	}
	return [3]int{call, got.Fault, answer}
}

// wantOutcomes looks whether the random calls came to all that they can come to.
func wantOutcomes(t *testing.T, seen map[[3]int]int) {
	t.Helper()
	can := map[int][]int{
		yield: {4}, stop: {4}, start: {0, 4}, sleep: {0, 4, 5}, prio: {0, 4}, tell: {4}, raise: {4}, set: {0, 4}, clears: {0, 4},
		await: {0, 1, 4, 5}, signal: {0, 2, 4}, take: {0, 1, 4, 5}, read: {0, 3, 4}, write: {0, 2, 4}, port: {0, 1, 4, 5},
	}
	for call, answers := range can {
		for _, a := range answers {
			if n := seen[[3]int{call, 0, a}]; n < 50 {
				t.Errorf("call %d had the outcome %d only %d times", call, a, n)
			}
		}
	}
	for _, x := range [][2]int{{read, api.FaultPage}, {read, api.FaultWrite}, {write, api.FaultPage}, {write, api.FaultRead}, {15, api.FaultCall}} {
		if n := seen[[3]int{x[0], x[1], 0}]; n < 50 {
			t.Errorf("call %d had the fault %d only %d times", x[0], x[1], n)
		}
	}
}

// TestSignalsAreNotLost: P12.3, over rows of signal and take by any process: who waits and what is counted add up.
func TestSignalsAreNotLost(t *testing.T) {
	r := rand.New(rand.NewSource(122))
	for range 60 {
		p := api.Plan{Pages: []api.PagePlan{{}}, Procs: make([]api.ProcPlan, 8), Sems: []int{one(r, 0, 1, 252)}}
		s := api.State{Procs: make([]api.Proc, 8), Sems: slices.Clone(p.Sems), Pages: make([]api.Page, 1)}
		for i := range s.Procs {
			s.Procs[i].State, s.Procs[i].Prio, s.Ready = api.Ready, r.Intn(3), append(s.Ready, i)
		}
		bias := 1 + r.Intn(5)
		for range 60 {
			proc, call := one(r, s.Ready...), signal
			if r.Intn(6) < bias && len(s.Ready) > 1 {
				call = take
			}
			s = with(s, proc, 0, forever)
			waiting, count := waitersOf(s), s.Sems[0]
			s = do(t, p, s, proc, call, now).State
			answer := s.Procs[proc].Regs[1]
			switch {
			case call == signal && waiting > 0:
				wantCounts(t, s, waiting-1, 0)
			case call == signal && count == 255:
				wantCounts(t, s, 0, 255)
				if answer != sys.Full {
					t.Errorf("P12.3: signal at 255 answers %x", answer)
				}
			case call == signal:
				wantCounts(t, s, 0, count+1)
			case count > 0:
				wantCounts(t, s, 0, count-1)
			default:
				wantCounts(t, s, waiting+1, 0)
			}
		}
	}
}

func waitersOf(s api.State) int {
	n := 0
	for _, q := range s.Procs {
		if q.Wait == api.WaitSem {
			n++
		}
	}
	return n
}

func wantCounts(t *testing.T, s api.State, waiting, count int) {
	t.Helper()
	if waitersOf(s) != waiting || s.Sems[0] != count {
		t.Errorf("P12.3: %d wait, the count is %d, want %d and %d", waitersOf(s), s.Sems[0], waiting, count)
	}
}

// TestBytesOfMemory: P12.4, what is read stands in memory, and what is written stood there.
func TestBytesOfMemory(t *testing.T) {
	r := rand.New(rand.NewSource(123))
	p := api.Plan{
		Pages: []api.PagePlan{{Rights: 3}, {Rights: 3}}, Procs: make([]api.ProcPlan, 1),
		Ports: []api.PortPlan{{Kind: api.QueueIn, Size: 32, Depth: 1}, {Kind: api.SampleOut, Size: 32, Depth: 1}},
	}
	for range 2000 {
		m := someBytes(r, r.Intn(33))
		addr := uint32(r.Intn(129 - len(m)))
		s := api.State{
			Procs: []api.Proc{{State: api.Ready}}, Ready: []int{0}, Ports: []api.Port{{Msgs: []string{m}}, {}},
			Pages: []api.Page{{Rights: 3}, {Rights: 3}},
		}
		s = do(t, p, with(s, 0, 0, addr), 0, read, now).State
		if got, fault, err := page.Out(s.Pages, addr, len(m)); got != m || fault != 0 || err != nil || s.Procs[0].Regs[1] != uint32(len(m)) {
			t.Errorf("P12.4: behind read of %q at %d memory has %q", m, addr, got)
		}
		s = do(t, p, with(s, 0, 1, addr, uint32(len(m))), 0, write, now).State
		if !slices.Equal(s.Ports[1].Msgs, []string{m}) {
			t.Errorf("P12.4: behind write from %d the port has %q, want %q", addr, s.Ports[1].Msgs, m)
		}
	}
}
