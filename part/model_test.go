package part_test

import (
	"math/rand"
	"slices"
	"testing"

	"ferry/api"
	"ferry/core"
	"ferry/isa"
	"ferry/part"
	"ferry/sys"
	"ferry/valid"
)

// model is a second partition, which goes on tick by tick: in each it looks anew who is to run, and takes one instruction.
type model struct {
	plan api.Plan
	s    api.State
	out  api.Out
	seen map[string]int
}

func (m *model) tell(r api.Report) { m.out.Reports = append(m.out.Reports, r) }

func (m *model) wake(i int, r1 uint32, how string) {
	q := &m.s.Procs[i]
	q.State, q.Wait, q.Obj, q.Regs[1] = 1, 0, 0, r1
	m.s.Ready = append(m.s.Ready, i)
	m.s.Timers = slices.DeleteFunc(m.s.Timers, func(x api.Timer) bool { return x.Proc == i })
	m.seen[how]++
}

// wakeAt: who waits for a port of the kind which is free, port by port, by number.
func (m *model) wakeAt(kind int, how string) {
	for k, x := range m.plan.Ports {
		for i := range m.s.Procs {
			q, held := m.s.Procs[i], len(m.s.Ports[k].Msgs)
			if x.Kind == kind && q.Wait == 4 && q.Obj == k && (kind == 3 && held > 0 || kind == 4 && held < x.Depth) {
				m.wake(i, 0, how)
			}
		}
	}
}

func (m *model) begin(msgs []api.Msg) {
	for k, x := range m.plan.Ports {
		if q := &m.s.Ports[k]; x.Kind == 1 && len(q.Msgs) == 1 && q.Age < 255 {
			q.Age++
		}
	}
	for _, msg := range msgs {
		fits := msg.Port >= 0 && msg.Port < len(m.plan.Ports)
		if fits {
			x, held := m.plan.Ports[msg.Port], len(m.s.Ports[msg.Port].Msgs)
			fits = x.Kind%2 == 1 && len(msg.Data) <= x.Size && (x.Kind == 1 || held < x.Depth)
		}
		if !fits {
			m.tell(api.Report{Kind: 3, Proc: -1, Code: uint32(msg.Port)})
			m.seen["drop"]++
			continue
		}
		q := &m.s.Ports[msg.Port]
		if m.plan.Ports[msg.Port].Kind == 1 {
			q.Msgs = nil
		}
		q.Msgs, q.Age = append(slices.Clone(q.Msgs), msg.Data), 0
	}
	m.wakeAt(3, "woken at the begin")
}

// runner: who is to run; -1: nobody.
func (m *model) runner() int {
	best := -1
	for _, i := range m.s.Ready {
		if best < 0 || m.s.Procs[i].Prio > m.s.Procs[best].Prio {
			best = i
		}
	}
	return best
}

func (m *model) tick(now int) {
	for len(m.s.Timers) > 0 && m.s.Timers[0].Due <= now {
		i := m.s.Timers[0].Proc
		if m.s.Procs[i].Wait == 1 {
			m.wake(i, 0, "slept")
		} else {
			m.wake(i, 1<<32-2, "timed out")
		}
	}
	i := m.runner()
	if i < 0 {
		m.seen["idle"]++
		return
	}
	var stop api.Stop
	m.s.Pages, m.s.Procs[i], stop = core.Step(m.s.Pages, m.s.Procs[i])
	code := stop.Code
	if stop.Kind == 1 {
		m.seen["call "+sys.Name(code)]++
		x, err := sys.Do(m.plan, m.s, i, code, now+1)
		if err != nil {
			panic(err)
		}
		m.s = x.State
		for _, r := range x.Reports {
			m.tell(r)
		}
		if code = x.Fault; code > 0 {
			m.s.Procs[i].Pc -= 4
		}
	}
	if code > 0 && stop.Kind > 0 {
		m.tell(api.Report{Kind: 1, Proc: i, Code: uint32(code), Pc: m.s.Procs[i].Pc})
		m.s.Procs[i].State = 3
		m.s.Ready = slices.DeleteFunc(m.s.Ready, func(k int) bool { return k == i })
		m.seen["fault"]++
	}
}

func (m *model) end(ticks int) {
	for k, x := range m.plan.Ports {
		for _, data := range m.s.Ports[k].Msgs {
			if x.Kind%2 == 0 {
				m.out.Msgs = append(m.out.Msgs, api.Msg{Port: k, Data: data})
				m.seen["emitted"]++
			}
		}
		if x.Kind%2 == 0 {
			m.s.Ports[k].Msgs = nil
		}
	}
	m.wakeAt(4, "woken at the end")
	for i := range m.s.Timers {
		m.s.Timers[i].Due = max(0, m.s.Timers[i].Due-ticks)
	}
	slices.SortFunc(m.s.Timers, func(a, b api.Timer) int { return (a.Due-b.Due)*100 + a.Proc - b.Proc })
	m.s.Frame++
}

// somePlan: a plan whose processes do much: memory of code and of data, things of every kind.
func somePlan(r *rand.Rand) api.Plan {
	p := api.Plan{Id: r.Intn(3), Events: 1 + r.Intn(2)}
	for _, kind := range append(r.Perm(4), 2+r.Intn(2)) {
		q := api.PortPlan{Kind: 1 + kind, Size: one(r, 1, 4), Depth: 1}
		if q.Kind > 2 {
			q.Depth = 1 + r.Intn(2)
		}
		if q.Kind == 1 {
			q.Refresh = r.Intn(3)
		}
		p.Ports = append(p.Ports, q)
	}
	for range 1 + r.Intn(2) {
		p.Sems = append(p.Sems, r.Intn(2))
	}
	for range 3 {
		p.Pages = append(p.Pages, api.PagePlan{Rights: one(r, 5, 5, 7, 4), Init: someCode(r, p)})
	}
	for range 1 + r.Intn(2) {
		p.Pages = append(p.Pages, api.PagePlan{Rights: one(r, 3, 3, 3, 3, 1, 2, 0), Init: someBytes(r, r.Intn(65))})
	}
	for range 2 + r.Intn(7) {
		p.Procs = append(p.Procs, api.ProcPlan{Entry: 4 * r.Intn(48), Prio: one(r, 1, 1, 2, 255), Auto: r.Intn(4) > 0})
	}
	return p
}

// someArgs: r1 and r2 for a call, mostly right ones.
func someArgs(r *rand.Rand, p api.Plan, call int) (int, int) {
	timeOut := one(r, 0, 1, 4, 9, 30, -1, -1)
	// Which kinds a call takes: 12 those in, 13 those out, 14 those that queue.
	kinds := map[int][]int{12: {1, 3}, 13: {2, 4}, 14: {3, 4}}[call]
	port := r.Intn(len(p.Ports))
	for kinds != nil && !slices.Contains(kinds, p.Ports[port].Kind) && r.Intn(9) > 0 {
		port = r.Intn(len(p.Ports))
	}
	switch call {
	case 3:
		return one(r, 0, 1, 5, 20, 60, -1), 0
	case 4:
		return r.Intn(9), one(r, 0, 1, 2, 255, 256)
	case 12, 13:
		return port, one(r, 192, 193, 200, 252, 0, 254)
	case 14:
		return port, timeOut
	}
	return one(r, 0, 0, 1, 1, 2, 3), timeOut
}

// someCode: a page of calls with their arguments, of stores, and of branches to and fro.
func someCode(r *rand.Rand, p api.Plan) string {
	var code []uint32
	put := func(in api.Instr) {
		w, err := isa.Encode(in)
		if err != nil {
			panic(err)
		}
		code = append(code, w)
	}
	for len(code) < 15 {
		switch r.Intn(9) {
		case 0:
			put(api.Instr{Op: api.InsAddi, A: 4, B: 4, Imm: 1})
		case 1:
			put(api.Instr{Op: api.InsSb, A: 4, Imm: one(r, 192, 193, 194, 255, 256, 60)})
		case 2:
			put(api.Instr{Op: api.InsBeq, Imm: one(r, 0, 1, 2, 3, -5)})
		case 3:
			put(api.Instr{Op: api.InsBeq, A: 1, Imm: r.Intn(4)})
		default:
			call := one(r, r.Intn(15), r.Intn(15), 3, 9, 11, 12, 13, 13, 14, 14, 14, 14)
			first, second := someArgs(r, p, call)
			put(api.Instr{Op: api.InsAddi, A: 3, Imm: one(r, 0, 1, 1, 2, 4)})
			put(api.Instr{Op: api.InsAddi, A: 2, Imm: second})
			put(api.Instr{Op: api.InsAddi, A: 1, Imm: first})
			put(api.Instr{Op: api.InsSys, Imm: call})
		}
	}
	if r.Intn(8) == 0 {
		code[r.Intn(15)] = one(r, r.Uint32(), 0x4000000f, 0x4000ffff)
	}
	code = code[:15]
	put(api.Instr{Op: api.InsBeq, Imm: -9 - r.Intn(8)})
	return string(isa.Bytes(code))
}

func someMsgs(r *rand.Rand) []api.Msg {
	var msgs []api.Msg
	for range r.Intn(4) {
		msgs = append(msgs, api.Msg{Port: one(r, 0, 1, 2, 3, 4, r.Intn(8)-1), Data: someBytes(r, one(r, 0, 1, 1, 4, 5))})
	}
	return withRoom(msgs, api.Msg{Port: 1, Data: "spare"})
}

// someWindows: some that rise within so many ticks; with no room between them now and then.
func someWindows(r *rand.Rand, ticks int) []api.Window {
	var windows []api.Window
	for at := r.Intn(5); at < ticks; {
		n := 1 + r.Intn(ticks-at)
		windows = append(windows, api.Window{Part: r.Intn(9), Start: at, Len: n})
		at += n + r.Intn(3)*r.Intn(5)
	}
	return withRoom(windows, api.Window{Start: 1, Len: 1})
}

// TestAgainstModel: partitions of all sorts, frame by frame, on both kernels; and P13.3, P13.5, P13.6 of each frame.
func TestAgainstModel(t *testing.T) {
	r := rand.New(rand.NewSource(131))
	seen := map[string]int{}
	for range 2500 {
		p := somePlan(r)
		s := boot(t, p)
		for range 1 + r.Intn(12) {
			ticks := one(r, 1, 5, 20, 60)
			windows, msgs := someWindows(r, ticks), someMsgs(r)
			m := &model{plan: p, s: valid.Copy(s), seen: seen}
			m.begin(msgs)
			for _, w := range windows {
				for now := w.Start; now < w.Start+w.Len; now++ {
					m.tick(now)
				}
			}
			m.end(ticks)
			look, lookMsgs := keptAll(t, p, s), slices.Clone(whole(msgs))
			after, out, err := part.Frame(p, s, ticks, windows, msgs)
			if err != nil || !same(after, m.s) || !sameOuts([]api.Out{out}, []api.Out{m.out}) {
				t.Fatalf("P13.2: Frame of %d ticks, windows %v, messages %v of\n%v\n%v:\n%v, %v, %v, want\n%v, %v", ticks, windows, msgs, p, s, after, out, err, m.s, m.out)
			}
			if err := valid.Rest(p, after); err != nil {
				t.Fatalf("P13.3: behind a frame rule %d is broken", api.Place(err))
			}
			wantPages(t, s.Pages, after.Pages)
			wantApart(t, "P13.6: Frame", p, s, windows, msgs, after, out)
			if look("Frame"); !slices.Equal(lookMsgs, whole(msgs)) {
				t.Errorf("P13.6: Frame has changed the messages")
			}
			s = roomy(after)
			touch(r, &s)
		}
	}
	wantSeen(t, seen)
}

// touch: what a checkpoint does, and processes that begin anew, so that the next frame has something to do.
func touch(r *rand.Rand, s *api.State) {
	if r.Intn(2) == 0 {
		for i := range s.Pages {
			s.Pages[i].Dirty = false
		}
		s.Epoch++
	}
	for i := range s.Procs {
		if q := &s.Procs[i]; q.State == api.Failed || q.State == api.Dormant {
			*q = api.Proc{Regs: q.Regs, Pc: uint32(4 * r.Intn(48)), State: api.Ready, Prio: r.Intn(3)}
			s.Ready = append(s.Ready, i)
		}
	}
}

// wantPages: P13.5, of the pages ahead of a frame and behind it.
func wantPages(t *testing.T, before, after []api.Page) {
	t.Helper()
	for i := range before {
		b, a := before[i], after[i]
		if a.Rights != b.Rights || b.Dirty && !a.Dirty || a.Data != b.Data && !a.Dirty || b.Rights&api.Write == 0 && a != b {
			t.Errorf("P13.5: page %d was %v and is %v", i, b, a)
		}
	}
}

// wantSeen looks whether enough of everything came about.
func wantSeen(t *testing.T, seen map[string]int) {
	t.Helper()
	for _, what := range []string{"woken at the begin", "woken at the end", "drop", "slept", "timed out", "idle", "fault", "emitted"} {
		if seen[what] < 60 {
			t.Errorf("%s came about only %d times", what, seen[what])
		}
	}
	for call := range 15 {
		if n := seen["call "+sys.Name(call)]; n < 100 {
			t.Errorf("call %d came about only %d times", call, n)
		}
	}
}

// grown: a state of the plan behind some frames, at rest, and behind a window where rest is false.
func grown(t *testing.T, r *rand.Rand, p api.Plan, rest bool) api.State {
	t.Helper()
	s := boot(t, p)
	for range r.Intn(5) {
		next, _, err := part.Frame(p, s, 30, someWindows(r, 30), someMsgs(r))
		wantBare(t, "P13.2: Frame", err, nil)
		s = roomy(next)
		touch(r, &s)
	}
	if !rest {
		s, _ = window(t, p, s, 0, 1+r.Intn(20))
	}
	return roomy(s)
}

// TestPieces: P13.1 of each call by itself, and P13.2: a window in two, a frame in its pieces, frames in two rows.
func TestPieces(t *testing.T) {
	r := rand.New(rand.NewSource(132))
	for range 1500 {
		p := somePlan(r)
		s := grown(t, r, p, r.Intn(2) == 0)
		start, a, b := r.Intn(30), 1+r.Intn(30), 1+r.Intn(30)
		once, reports := window(t, p, s, start, a+b)
		half, first := window(t, p, s, start, a)
		twice, second := window(t, p, half, start+a, b)
		if !same(once, twice) || !slices.Equal(reports, append(slices.Clone(first), second...)) {
			t.Fatalf("P13.2: a window of %d and %d ticks from %d: %v, %v, at once %v, %v", a, b, start, twice, second, once, reports)
		}
		m := &model{plan: p, s: valid.Copy(s), seen: map[string]int{}}
		for now := start; now < start+a+b; now++ {
			m.tick(now)
		}
		if !same(once, m.s) || !slices.Equal(reports, m.out.Reports) {
			t.Fatalf("P13.1: a window of %d ticks from %d: %v, %v, want %v, %v", a+b, start, once, reports, m.s, m.out.Reports)
		}
		wantFramePieces(t, r, p, s)
	}
}

func wantFramePieces(t *testing.T, r *rand.Rand, p api.Plan, s api.State) {
	t.Helper()
	ticks := one(r, 1, 20, 40)
	windows, msgs := someWindows(r, ticks), [][]api.Msg{someMsgs(r), someMsgs(r), someMsgs(r)}
	piece, want := s, []api.Out{}
	for _, list := range msgs {
		var out api.Out
		piece, out.Reports = begin(t, p, piece, list...)
		if err := valid.Check(p, piece); err != nil {
			t.Fatalf("P13.3: behind Begin rule %d is broken", api.Place(err))
		}
		for _, w := range windows {
			var reports []api.Report
			piece, reports = window(t, p, piece, w.Start, w.Len)
			out.Reports = append(out.Reports, reports...)
			if err := valid.Check(p, piece); err != nil {
				t.Fatalf("P13.3: behind Window rule %d is broken", api.Place(err))
			}
		}
		piece, out.Msgs = end(t, p, piece, ticks)
		if err := valid.Rest(p, piece); err != nil {
			t.Fatalf("P13.3: behind End rule %d is broken", api.Place(err))
		}
		want = append(want, out)
	}
	look := keptAll(t, p, s)
	all, outs, err := part.Frames(p, s, ticks, windows, msgs)
	if err != nil || !same(all, piece) || !sameOuts(outs, want) {
		t.Fatalf("P13.2: Frames: %v, %v, %v, in pieces %v, %v", all, outs, err, piece, want)
	}
	look("Frames")
	wantApart(t, "P13.6: Frames", p, s, windows, msgs, all, outs)
	cut := r.Intn(4)
	half, x, err := part.Frames(p, s, ticks, windows, msgs[:cut])
	wantBare(t, "P13.2: Frames", err, nil)
	twice, y, err := part.Frames(p, half, ticks, windows, msgs[cut:])
	if err != nil || !same(all, twice) || !sameOuts(outs, append(slices.Clone(x), y...)) {
		t.Fatalf("P13.2: Frames for %d lists and then the others: %v, %v, at once %v", cut, twice, err, all)
	}
}

// TestAlike: P13.4, of two states that differ by Dirty and Epoch alone.
func TestAlike(t *testing.T) {
	r := rand.New(rand.NewSource(133))
	for range 1500 {
		p := somePlan(r)
		a := grown(t, r, p, r.Intn(2) == 0)
		b := roomy(a)
		b.Epoch = one(r, 0, 7, api.MaxEpoch)
		for i := range b.Pages {
			b.Pages[i].Dirty = r.Intn(2) == 0
		}
		msgs, windows := someMsgs(r), someWindows(r, 30)
		x, first := begin(t, p, a, msgs...)
		y, second := begin(t, p, b, msgs...)
		wantAlike(t, "Begin", x, y, slices.Equal(first, second))
		x, first = window(t, p, a, 3, 20)
		y, second = window(t, p, b, 3, 20)
		wantAlike(t, "Window", x, y, slices.Equal(first, second))
		x, out := end(t, p, a, 30)
		y, other := end(t, p, b, 30)
		wantAlike(t, "End", x, y, slices.Equal(out, other))
		x, outs, err := part.Frames(p, a, 30, windows, [][]api.Msg{msgs, nil})
		wantBare(t, "P13.2: Frames", err, nil)
		y, others, err := part.Frames(p, b, 30, windows, [][]api.Msg{msgs, nil})
		wantBare(t, "P13.2: Frames", err, nil)
		wantAlike(t, "Frames", x, y, sameOuts(outs, others))
		if y.Epoch != b.Epoch {
			t.Errorf("P13.4: Frames moves the Epoch")
		}
	}
}

func wantAlike(t *testing.T, what string, a, b api.State, alike bool) {
	t.Helper()
	if !valid.Alike(a, b) || !alike {
		t.Fatalf("P13.4: %s of states that are alike: %v and %v", what, a, b)
	}
}
