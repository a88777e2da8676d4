package core_test

import (
	"math"
	"slices"
	"testing"

	"ferry/api"
	"ferry/core"
	"ferry/isa"
)

func TestExamples(t *testing.T) {
	m := memory(t, "addi r1 r0 5")
	p := at(0)
	p.Regs[0] = 9
	wantStep(t, "example 1", m, at(0), with(at(0), 1, 5, 4), stepped())
	wantStep(t, "example 1, Regs[0] 9", m, p, with(at(0), 1, 5, 4), stepped())

	m = memory(t, "sys 3")
	wantStep(t, "example 2", m, at(0), at(4), called(3))
	if pages, q, s := core.Run(m, at(0), 10); q != at(4) || s != called(3) || !slices.Equal(pages, m) {
		t.Errorf("P6.2: example 2: Run for 10 = %v, %v", q, s)
	}

	m = memory(t, "")
	for pc, fault := range map[uint32]int{0: api.FaultOp, 2: api.FaultAlign, 64: api.FaultExecute, 128: api.FaultPage} {
		wantStep(t, "example 3", m, at(pc), at(pc), faulted(fault))
	}

	m = memory(t, "sw r1 r0 64\nlb r2 r0 67\nsw r1 r0 0\nsw r1 r0 66")
	changed := slices.Clone(m)
	copy(changed[1].Data[:], "\x01\x02\x03\x04")
	changed[1].Dirty = true
	wantStep(t, "example 4, SW", m, at(0, 0x01020304), at(4, 0x01020304), stepped(), changed...)
	wantStep(t, "example 4, LB", changed, at(4, 0x01020304), at(8, 0x01020304, 4), stepped())
	wantStep(t, "example 4, no right", m, at(8, 0x01020304), at(8, 0x01020304), faulted(api.FaultWrite))
	wantStep(t, "example 4, not aligned", m, at(12, 0x01020304), at(12, 0x01020304), faulted(api.FaultAlign))

	m = memory(t, "beq r0 r0 -1\njal r1 2\njr r1 4\ndivu r1 r2 r0")
	if pages, q, s := core.Run(m, at(0), 1000); q != at(0) || s != (api.Stop{Steps: 1000}) || !slices.Equal(pages, m) {
		t.Errorf("P6.2: example 5: %v, %v", q, s)
	}
	if l, err := core.Path(m, at(0), 3); err != nil || !slices.Equal(l, []uint32{0, 0, 0}) {
		t.Errorf("P6.3: example 5: %v, %v", l, err)
	}
	wantStep(t, "example 6, JAL", m, at(4), at(16, 8), stepped())
	wantStep(t, "example 6, JR", m, at(8, 0xfffffffc), at(0, 0xfffffffc), stepped())
	wantStep(t, "example 7", m, at(12, 5, 6), at(12, 5, 6), faulted(api.FaultDivide))
}

// TestInstructions: each op by itself. r1 is 7, r2 is 0xfffffff0 (-16), r3 is 3, r4 is 0x40.
func TestInstructions(t *testing.T) {
	for _, c := range []struct {
		text string
		reg  int
		v    uint32
	}{
		{"add r5 r2 r1", 5, 0xfffffff7}, {"sub r5 r1 r2", 5, 23}, {"and r5 r2 r1", 5, 0}, {"or r5 r2 r1", 5, 0xfffffff7}, {"xor r5 r2 r2", 5, 0},
		{"shl r5 r2 r3", 5, 0xffffff80}, {"shr r5 r2 r3", 5, 0x1ffffffe}, {"sar r5 r2 r3", 5, 0xfffffffe}, {"shl r5 r1 r4", 5, 7},
		{"mul r5 r2 r3", 5, 0xffffffd0}, {"divu r5 r2 r1", 5, 0x24924922}, {"divs r5 r2 r3", 5, 0xfffffffb}, {"remu r5 r2 r1", 5, 2}, {"rems r5 r2 r3", 5, 0xffffffff},
		{"sltu r5 r1 r2", 5, 1}, {"slts r5 r1 r2", 5, 0}, {"slts r5 r2 r1", 5, 1}, {"sltu r5 r2 r1", 5, 0},
		{"addi r5 r1 -8", 5, 0xffffffff}, {"addi r5 r2 32767", 5, 0x7fef}, {"addi r5 r0 -32768", 5, 0xffff8000},
		{"andi r5 r2 65535", 5, 0xfff0}, {"ori r5 r1 65528", 5, 0xffff}, {"xori r5 r2 65535", 5, 0xffff000f},
		{"lui r5 65535", 5, 0xffff0000}, {"lui r5 1", 5, 0x10000}, {"addi r1 r1 1", 1, 8}, {"sub r1 r1 r1", 1, 0}, {"lui r1 0", 1, 0},
		{"lw r5 r4 0", 5, 0x81828384}, {"lh r5 r4 0", 5, 0x8182}, {"lh r5 r4 2", 5, 0x8384}, {"lb r5 r4 0", 5, 0x81}, {"lb r5 r4 3", 5, 0x84},
		{"lw r4 r4 0", 4, 0x81828384}, {"lb r5 r2 80", 5, 0x81}, {"lw r5 r4 -64", 5, 0x40000000}, {"addi r15 r3 0", 15, 3},
	} {
		m := memory(t, "sys 0\n"+c.text)
		copy(m[1].Data[:], "\x81\x82\x83\x84")
		p := at(4, 7, 0xfffffff0, 3, 0x40)
		pages, q, s := core.Step(m, p)
		if q != with(p, c.reg, c.v, 8) || s != stepped() || !slices.Equal(pages, m) {
			t.Errorf("P6.1: %s: %v, %v", c.text, q, s)
		}
	}
}

func TestStores(t *testing.T) {
	for _, c := range []struct {
		text string
		at   int
		data string
	}{
		{"sw r1 r0 64", 0, "\x01\x02\x83\x84"}, {"sh r1 r0 66", 2, "\x83\x84"}, {"sb r1 r0 65", 1, "\x84"}, {"sw r0 r2 63", 60, "\x00\x00\x00\x00"},
		{"sb r1 r2 66", 63, "\x84"}, {"sw r2 r2 3", 0, "\x00\x00\x00\x3d"}, {"sb r0 r0 64", 0, "\x00"},
	} {
		m := memory(t, c.text)
		p := at(0, 0x01028384, 61)
		changed := slices.Clone(m)
		copy(changed[1].Data[c.at:], c.data)
		changed[1].Dirty = true
		wantStep(t, c.text, m, p, with(p, 0, 0, 4), stepped(), changed...)
	}
}

func TestBranches(t *testing.T) {
	for _, c := range []struct {
		name  string
		a, b  uint32
		taken bool
	}{
		{"beq", 5, 5, true}, {"beq", 5, 6, false}, {"bne", 5, 5, false}, {"bne", 5, 6, true},
		{"bltu", 5, 6, true}, {"bltu", 6, 5, false}, {"bltu", 5, 5, false}, {"bltu", 0xffffffff, 0, false}, {"bltu", 0, 0xffffffff, true},
		{"blts", 5, 6, true}, {"blts", 6, 5, false}, {"blts", 5, 5, false}, {"blts", 0xffffffff, 0, true}, {"blts", 0, 0xffffffff, false}, {"blts", 0x80000000, 0x7fffffff, true},
		{"bgeu", 5, 6, false}, {"bgeu", 6, 5, true}, {"bgeu", 5, 5, true}, {"bgeu", 0xffffffff, 0, true},
		{"bges", 5, 6, false}, {"bges", 6, 5, true}, {"bges", 5, 5, true}, {"bges", 0xffffffff, 0, false}, {"bges", 0x7fffffff, 0x80000000, true},
	} {
		for imm, pc := range map[string]uint32{"3": 24, "0": 12, "-1": 8, "-3": 0, "-4": 0xfffffffc, "32767": 12 + 4*32767, "-32768": 0xfffe000c} {
			if !c.taken {
				pc = 12
			}
			p := at(8, c.a, c.b)
			wantStep(t, c.name, memory(t, "sys 0\nsys 0\n"+c.name+" r1 r2 "+imm), p, with(p, 0, 0, pc), stepped())
		}
	}
}

// TestRegisterZero: what goes to it is gone, whatever was handed in counts as 0, and all else is done.
func TestRegisterZero(t *testing.T) {
	for text, stop := range map[string]api.Stop{
		"addi r0 r1 1": stepped(), "add r0 r1 r1": stepped(), "lui r0 9": stepped(), "lw r0 r2 0": stepped(), "sys 77": called(77),
		"divu r0 r1 r0": faulted(api.FaultDivide), "lw r0 r1 2": faulted(api.FaultAlign), "lw r0 r3 0": faulted(api.FaultPage), "lh r0 r1 0": faulted(api.FaultAlign),
	} {
		m := memory(t, text)
		copy(m[1].Data[:], "\x01\x02\x03\x04")
		p := at(0, 7, 64, 128)
		want := p
		if stop.Kind != api.StopFault {
			want.Pc = 4
		}
		p.Regs[0] = 0xdeadbeef
		wantStep(t, text, m, p, want, stop)
	}
	p := at(0, 7)
	p.Regs[0] = 1
	wantStep(t, "jal r0 4", memory(t, "jal r0 4"), p, at(20, 7), stepped())
	wantStep(t, "jr r0 8", memory(t, "jr r0 8"), p, at(8, 7), stepped())
	wantStep(t, "add r2 r0 r0", memory(t, "add r2 r0 r0"), p, at(4, 7, 0), stepped())
	wantStep(t, "bne r0 r0 5", memory(t, "bne r0 r0 5"), p, at(4, 7), stepped())
	m := memory(t, "sw r0 r0 64")
	changed := slices.Clone(m)
	changed[1].Dirty = true
	wantStep(t, "sw r0 r0 64", m, p, at(4, 7), stepped(), changed...)
	wantStep(t, "no page", nil, p, at(0, 7), faulted(api.FaultPage))
}

// TestFetch: which of its faults comes first, and the answer beside them.
func TestFetch(t *testing.T) {
	m := []api.Page{{Rights: api.Execute}, {Rights: api.Read | api.Write}, {Rights: -1}, {Rights: 8}}
	copy(m[0].Data[:], "\x10\x10\x00\x05\x01\x12\x30\x01\x00\x00\x00\x00\x14\x11\x00\x00")
	copy(m[2].Data[:], "\x40\x00\xff\xff")
	for _, c := range []struct {
		pc    uint32
		in    api.Instr
		fault int
	}{
		{0, api.Instr{Op: api.InsAddi, A: 1, Imm: 5}, 0}, {128, api.Instr{Op: api.InsSys, Imm: 65535}, 0},
		{4, api.Instr{}, api.FaultOp}, {8, api.Instr{}, api.FaultOp}, {12, api.Instr{}, api.FaultOp},
		{64, api.Instr{}, api.FaultExecute}, {192, api.Instr{}, api.FaultExecute}, {256, api.Instr{}, api.FaultPage}, {0xfffffffc, api.Instr{}, api.FaultPage},
		{1, api.Instr{}, api.FaultAlign}, {2, api.Instr{}, api.FaultAlign}, {7, api.Instr{}, api.FaultAlign}, {66, api.Instr{}, api.FaultAlign}, {257, api.Instr{}, api.FaultAlign}, {0xffffffff, api.Instr{}, api.FaultAlign},
	} {
		if in, fault := core.Fetch(m, c.pc); in != c.in || fault != c.fault {
			t.Errorf("P6.1: Fetch at %d = %v, %d", c.pc, in, fault)
		}
	}
	if in, fault := core.Fetch(nil, 0); in != (api.Instr{}) || fault != api.FaultPage {
		t.Errorf("P6.1: Fetch of no pages = %v, %d", in, fault)
	}
}

// TestWrapping: sums of addresses and of Pc wrap in 32 bits.
func TestWrapping(t *testing.T) {
	m := memory(t, "lb r2 r1 65\njr r1 -4\nsb r3 r1 66")
	m[1].Data[0] = 9
	changed := slices.Clone(m)
	changed[1].Data[1], changed[1].Dirty = 0x34, true
	p := at(0, 0xffffffff, 0, 0x1234)
	wantStep(t, "a load that wraps", m, p, with(p, 2, 9, 4), stepped())
	p.Pc = 8
	wantStep(t, "a store that wraps", m, p, with(p, 0, 0, 12), stepped(), changed...)
	p = at(4, 2)
	wantStep(t, "a jump below 0", m, p, with(p, 0, 0, 0xfffffffe), stepped())
}

// TestOtherFields: of a process this layer touches Regs and Pc alone, and takes any number in the others.
func TestOtherFields(t *testing.T) {
	p := api.Proc{State: 77, Prio: -5, Wait: math.MaxInt, Obj: math.MinInt}
	for _, text := range []string{"addi r1 r1 1", "sys 9", "lw r1 r0 1", ""} {
		_, q, _ := core.Step(memory(t, text), p)
		if q.State != p.State || q.Prio != p.Prio || q.Wait != p.Wait || q.Obj != p.Obj {
			t.Errorf("P6.1: %q: %v", text, q)
		}
	}
}

func TestRunOfNoSteps(t *testing.T) {
	m := roomy(memory(t, "addi r1 r0 5"))
	m[1].Dirty = true
	p := api.Proc{Pc: 3, State: 9}
	p.Regs[0], p.Regs[7] = 4, 8
	want := p
	want.Regs[0] = 0
	for _, most := range []int{0, -1, -5, math.MinInt} {
		pages, q, s := core.Run(m, p, most)
		if !slices.Equal(pages, m) || q != want || s != (api.Stop{}) {
			t.Errorf("P6.2: Run for %d = %v, %v", most, q, s)
		}
		spoil(pages)
		if m[1].Data[63] != 0 || m[0].Rights != 5 {
			t.Errorf("P6.5: Run for %d shares memory with what it was handed", most)
		}
		if l, err := core.Path(m, p, most); len(l) != 0 || err != nil {
			t.Errorf("P6.3: Path for %d = %v, %v", most, l, err)
		}
	}
}

func TestRunToItsEnd(t *testing.T) {
	m := memory(t, "addi r1 r1 1\naddi r1 r1 1\nbne r1 r2 -3\nsys 5")
	for most := 1; most <= 20; most++ {
		_, q, s := core.Run(m, at(0, 0, 6), most)
		want := api.Stop{Steps: most}
		if most >= 10 {
			want = api.Stop{Kind: api.StopCall, Steps: 10, Code: 5}
		}
		if s != want || most >= 10 && q != at(16, 6, 6) {
			t.Errorf("P6.2: Run for %d = %v, %v", most, q, s)
		}
		l, err := core.Path(m, at(0, 0, 6), most)
		if err != nil || !slices.Equal(l, []uint32{0, 4, 8, 0, 4, 8, 0, 4, 8, 12}[:want.Steps]) {
			t.Errorf("P6.3: Path for %d = %v, %v", most, l, err)
		}
	}
	_, q, s := core.Run(m, at(0, 0, 6), math.MaxInt)
	if q != at(16, 6, 6) || s != (api.Stop{Kind: api.StopCall, Steps: 10, Code: 5}) {
		t.Errorf("P6.2: Run for the most = %v, %v", q, s)
	}
	m = memory(t, "addi r1 r1 1\nlw r1 r0 128")
	_, q, s = core.Run(m, at(0), 9)
	if q != at(4, 1) || s != (api.Stop{Kind: api.StopFault, Steps: 2, Code: api.FaultPage}) {
		t.Errorf("P6.2: Run into a fault = %v, %v", q, s)
	}
	if l, err := core.Path(m, at(0), 9); err != nil || !slices.Equal(l, []uint32{0, 4}) {
		t.Errorf("P6.3: Path into a fault = %v, %v", l, err)
	}
}

func TestPathAtItsSize(t *testing.T) {
	m := memory(t, "jal r0 -1")
	l, err := core.Path(m, at(0), api.MaxTicks)
	if len(l) != 10000 || err != nil {
		t.Errorf("P6.3: Path for MaxTicks: %d places, %v", len(l), err)
	}
	for _, most := range []int{10001, math.MaxInt} {
		for _, pages := range [][]api.Page{m, nil} {
			l, err := core.Path(pages, at(0), most)
			wantBare(t, "P6.3: Path for too many", err, api.ErrArg)
			if l != nil {
				t.Errorf("P6.3: Path for %d: a list beside an error", most)
			}
		}
	}
}

// TestCodeThatIsWritten: an instruction is fetched from the memory as it is then.
func TestCodeThatIsWritten(t *testing.T) {
	m := memory(t, "sw r1 r0 4\nsys 1")
	m[0].Rights = 7
	pages, q, s := core.Run(m, at(0, 0x40000002), 9)
	if q != at(8, 0x40000002) || s != (api.Stop{Kind: api.StopCall, Steps: 2, Code: 2}) || !pages[0].Dirty || pages[0].Data[7] != 2 || m[0].Data[7] != 1 {
		t.Errorf("P6.2: code that writes code: %v, %v", q, s)
	}
}

// TestManyPages: more than MaxPages, and rights of any number.
func TestManyPages(t *testing.T) {
	m := make([]api.Page, 1000)
	m[999].Rights = math.MinInt + 6
	copy(m[999].Data[:], isa.Bytes([]uint32{0x23120008, 0x20100008})) // sw r1 r2 8, lw r1 r0 8
	pc := uint32(999 * 64)
	p := api.Proc{Pc: pc}
	p.Regs[1], p.Regs[2] = 0x55667788, pc
	pages, q, s := core.Step(m, p)
	if s != stepped() || q.Pc != pc+4 || string(pages[999].Data[8:12]) != "\x55\x66\x77\x88" || !pages[999].Dirty || m[999].Dirty {
		t.Errorf("P6.1: the last of 1000 pages: %v, %v", q, s)
	}
	p.Pc = pc + 4
	if _, _, s := core.Step(m, p); s != faulted(api.FaultRead) {
		t.Errorf("P6.1: a load from a page without rights: %v", s)
	}
}
