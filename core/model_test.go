package core_test

import (
	"math/rand"
	"slices"
	"testing"

	"ferry/api"
	"ferry/core"
	"ferry/isa"
)

// model is a second machine: a memory of bytes, numbers as int64, the ops by their names.
type model struct {
	pages []api.Page
	proc  api.Proc
	path  []uint32
}

func signed(x uint32) int64 {
	if x >= 1<<31 {
		return int64(x) - 1<<32
	}
	return int64(x)
}

// faultAt: the fault of size bytes at the address; bit: the right's bit, fault: what its lack is called.
func (m *model) faultAt(addr uint32, size, bit, fault int) int {
	switch {
	case int(addr)%size != 0:
		return api.FaultAlign
	case int(addr) >= 64*len(m.pages):
		return api.FaultPage
	case m.pages[addr/64].Rights>>bit&1 == 0:
		return fault
	}
	return 0
}

func (m *model) bytes(addr uint32, size int) uint32 {
	v := int64(0)
	for k := range size {
		v = v*256 + int64(m.pages[int(addr)/64].Data[(int(addr)+k)%64])
	}
	return uint32(v)
}

// arithmetic: the name's answer; ok is false of a division by zero.
func arithmetic(name string, b, c uint32) (v int64, ok bool) {
	if c == 0 && slices.Contains([]string{"divu", "divs", "remu", "rems"}, name) {
		return 0, false
	}
	truth := map[bool]int64{true: 1}
	switch name {
	case "add":
		return int64(b) + int64(c), true
	case "sub":
		return int64(b) - int64(c), true
	case "and":
		return int64(b & c), true
	case "or":
		return int64(b | c), true
	case "xor":
		return int64(b) + int64(c) - 2*int64(b&c), true
	case "shl":
		return int64(b) << (c & 31), true
	case "shr":
		return int64(b) >> (c & 31), true
	case "sar":
		return signed(b) >> (c & 31), true
	case "mul":
		return signed(b) * signed(c), true
	case "divu":
		return int64(b) / int64(c), true
	case "divs":
		return signed(b) / signed(c), true
	case "remu":
		return int64(b) % int64(c), true
	case "rems":
		return signed(b) % signed(c), true
	case "sltu":
		return truth[b < c], true
	}
	return truth[signed(b) < signed(c)], true
}

func jumps(name string, a, b uint32) bool {
	return map[string]bool{"beq": a == b, "bne": a != b, "bltu": a < b, "bgeu": a >= b, "blts": signed(a) < signed(b), "bges": signed(a) >= signed(b)}[name]
}

// step: one instruction; the stop's kind and code.
func (m *model) step() (int, int) {
	pc := m.proc.Pc
	m.path = append(m.path, pc)
	if f := m.faultAt(pc, 4, 2, api.FaultExecute); f != 0 {
		return api.StopFault, f
	}
	in, err := isa.Decode(m.bytes(pc, 4))
	if err != nil {
		return api.StopFault, api.FaultOp
	}
	next := int64(pc) + 4
	name := isa.Name(in.Op)
	a, b, c := m.proc.Regs[in.A], m.proc.Regs[in.B], m.proc.Regs[in.C]
	addr := uint32(int64(b) + int64(in.Imm))
	write, v := false, int64(0)
	sizes := map[string]int{"lw": 4, "lh": 2, "lb": 1, "sw": 4, "sh": 2, "sb": 1}
	switch name {
	case "addi", "andi", "ori", "xori":
		write = true
		v, _ = arithmetic(name[:len(name)-1], b, uint32(int64(in.Imm)+1<<32))
	case "lui":
		write, v = true, int64(in.Imm)*65536
	case "lw", "lh", "lb":
		if f := m.faultAt(addr, sizes[name], 0, api.FaultRead); f != 0 {
			return api.StopFault, f
		}
		write, v = true, int64(m.bytes(addr, sizes[name]))
	case "sw", "sh", "sb":
		if f := m.faultAt(addr, sizes[name], 1, api.FaultWrite); f != 0 {
			return api.StopFault, f
		}
		for k := range sizes[name] {
			m.pages[addr/64].Data[(int(addr)+k)%64] = byte(a >> (8 * (sizes[name] - 1 - k)))
		}
		m.pages[addr/64].Dirty = true
	case "beq", "bne", "bltu", "blts", "bgeu", "bges":
		if jumps(name, a, b) {
			next += 4 * int64(in.Imm)
		}
	case "jal":
		write, v = true, next
		next += 4 * int64(in.Imm)
	case "jr":
		next = int64(addr)
	case "sys":
		m.proc.Pc = uint32(next)
		return api.StopCall, in.Imm
	default:
		if v, write = arithmetic(name, b, c); !write {
			return api.StopFault, api.FaultDivide
		}
	}
	if write && in.A > 0 {
		m.proc.Regs[in.A] = uint32(v)
	}
	m.proc.Pc = uint32(next)
	return api.StopSteps, 0
}

func (m *model) run(most int) api.Stop {
	var s api.Stop
	for s.Steps < most && s.Kind == api.StopSteps {
		s.Kind, s.Code = m.step()
		s.Steps++
	}
	return s
}

func newModel(pages []api.Page, p api.Proc) *model {
	m := &model{pages: slices.Clone(pages), proc: p}
	m.proc.Regs[0] = 0
	return m
}

// anyInstr: an instruction that goes on often: near addresses, short jumps, few calls.
func anyInstr(r *rand.Rand) api.Instr {
	ops := []int{1, 2, 3, 4, 5, 6, 7, 8, 9, 10, 11, 12, 13, 14, 15, 16, 17, 18, 19, 20, 32, 33, 34, 35, 36, 37, 48, 49, 50, 51, 52, 53, 54, 55, 64}
	for {
		in := api.Instr{Op: ops[r.Intn(len(ops))], A: r.Intn(16), B: r.Intn(16), C: r.Intn(16)}
		switch {
		case in.Op < 16:
		case in.Op == 64 && r.Intn(4) > 0:
			continue
		case in.Op >= 32 && in.Op <= 37:
			in.C, in.Imm = 0, r.Intn(64)*4
			if r.Intn(3) > 0 {
				in.B = 0
			}
			if r.Intn(6) == 0 {
				in.Imm = r.Intn(65536) - 32768
			}
		case in.Op >= 48 && in.Op <= 54:
			in.C, in.Imm = 0, r.Intn(12)-4
		default:
			in.C, in.Imm = 0, r.Intn(65536)-32768
		}
		if in.Op == 20 || in.Op == 54 || in.Op == 64 {
			in.B = 0
		}
		if in.Op == 55 || in.Op == 64 {
			in.A = 0
		}
		if in.Op == 55 && r.Intn(2) == 0 {
			in.B, in.Imm = 0, r.Intn(32)*4
		}
		if isa.Check(in) == nil {
			return in
		}
	}
}

// anyMemory: pages of instructions, with now and then a word of any bits, and of any rights.
func anyMemory(t *testing.T, r *rand.Rand) []api.Page {
	t.Helper()
	rights := []int{7, 7, 7, 5, 3, 1, 2, 4, 6, 0, 15, -1}
	m := make([]api.Page, 1+r.Intn(5), 8)
	for i := range m {
		m[i].Rights, m[i].Dirty = rights[r.Intn(len(rights))], r.Intn(3) == 0
		if i == 0 {
			m[i].Rights |= api.Execute
		}
		for k := 0; k < 64; k += 4 {
			w, err := isa.Encode(anyInstr(r))
			if err != nil {
				t.Fatal(err)
			}
			if r.Intn(40) == 0 {
				w = r.Uint32()
			}
			copy(m[i].Data[k:], isa.Bytes([]uint32{w}))
		}
	}
	return m
}

func anyProc(r *rand.Rand) api.Proc {
	p := api.Proc{Pc: uint32(4 * r.Intn(16)), State: r.Intn(9), Prio: r.Intn(9), Wait: r.Intn(9), Obj: r.Intn(9)}
	if r.Intn(20) == 0 {
		p.Pc = someWord(r)
	}
	for i := range p.Regs {
		p.Regs[i] = someWord(r)
	}
	return p
}

// TestRunAgainstTheModel: many programs on both machines; and P6.3, P6.4, P6.5 of each run.
func TestRunAgainstTheModel(t *testing.T) {
	r := rand.New(rand.NewSource(61))
	stops := map[int]int{}
	for range 20000 {
		m, p, most := anyMemory(t, r), anyProc(r), 1+r.Intn(60)
		was := slices.Clone(whole(m))
		pages, q, s := core.Run(m, p, most)
		path, err := core.Path(m, p, most)
		want := newModel(m, p)
		stop := want.run(most)
		stops[8*stop.Kind+stop.Code*min(stop.Kind-1, 1)]++
		if s != stop || q != want.proc || !slices.Equal(pages, want.pages) {
			t.Fatalf("P6.2: Run for %d of %v on %v: %v, %v, want %v, %v", most, p, m, q, s, want.proc, stop)
		}
		if err != nil || !slices.Equal(path, want.path) {
			t.Fatalf("P6.3: Path for %d of %v on %v: %v, %v, want %v", most, p, m, path, err, want.path)
		}
		wantKeptRights(t, m, pages)
		spoil(pages)
		if !slices.Equal(whole(m), was) {
			t.Fatalf("P6.5: what was handed in has changed")
		}
	}
	if len(stops) < 9 {
		t.Errorf("the programs stop for too few reasons: %v", stops)
	}
}

// wantKeptRights: P6.4, of the pages ahead of a run and behind it.
func wantKeptRights(t *testing.T, before, after []api.Page) {
	t.Helper()
	for i := range before {
		b, a := before[i], after[i]
		if a.Rights != b.Rights || b.Dirty && !a.Dirty || a.Data != b.Data && !a.Dirty || b.Rights&api.Write == 0 && a != b {
			t.Errorf("P6.4: page %d was %v and is %v", i, b, a)
		}
	}
}

// TestRunInTwoParts: P6.2, m steps and then n.
func TestRunInTwoParts(t *testing.T) {
	r := rand.New(rand.NewSource(62))
	for range 5000 {
		mem, p, m, n := anyMemory(t, r), anyProc(r), r.Intn(20), r.Intn(20)
		pages, q, s := core.Run(mem, p, m+n)
		halfPages, half, first := core.Run(mem, p, m)
		if first.Kind == api.StopSteps {
			var second api.Stop
			halfPages, half, second = core.Run(halfPages, half, n)
			second.Steps += first.Steps
			first = second
		}
		if s != first || q != half || !slices.Equal(pages, halfPages) {
			t.Fatalf("P6.2: Run for %d and then %d: %v, %v; at once %v, %v", m, n, half, first, q, s)
		}
	}
}

// TestStepAgainstTheModel: every op many times, with any operands.
func TestStepAgainstTheModel(t *testing.T) {
	r := rand.New(rand.NewSource(63))
	for range 60000 {
		m, p := anyMemory(t, r), anyProc(r)
		was := slices.Clone(whole(m))
		pages, q, s := core.Step(m, p)
		want := newModel(m, p)
		if stop := want.run(1); s != stop || q != want.proc || !slices.Equal(pages, want.pages) {
			t.Fatalf("P6.1: Step of %v on %v: %v, %v, want %v, %v", p, m, q, s, want.proc, stop)
		}
		spoil(pages)
		if !slices.Equal(whole(m), was) {
			t.Fatalf("P6.5: what was handed in has changed")
		}
	}
}
