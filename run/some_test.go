package run_test

import (
	"math"
	"math/rand"
	"slices"
	"testing"

	"ferry/api"
	"ferry/frame"
	"ferry/isa"
	"ferry/pair"
)

// The programs of the plays: what they do hangs on ticks, messages, timers, and what they did before.
const (
	// counts: a byte each frame; then it sleeps.
	counts = "loop: addi r4 r4 7\nsb r4 r0 128\naddi r1 r0 0\naddi r2 r0 128\naddi r3 r0 1\nsys 13\naddi r1 r0 41\nsys 3\nbeq r0 r0 loop"
	// echoes what comes to port 1 at port 0, and waits for more.
	echoes = "loop: addi r1 r0 1\naddi r2 r0 128\nsys 12\naddi r3 r1 0\naddi r1 r0 0\naddi r2 r0 128\nsys 13\naddi r1 r0 1\naddi r2 r0 -1\nsys 14\nbeq r0 r0 loop"
	// spreads: writes all over its pages as fast as it can, and tells the time now and then.
	spreads = "loop: addi r4 r4 3\nandi r5 r4 252\nsw r4 r5 128\nandi r6 r4 15\nbne r6 r0 loop\nsys 5\nadd r7 r7 r1\naddi r1 r7 0\nsys 6\nbeq r0 r0 loop"
	// signals a semaphore every 17 ticks; a second process, from 64 on, takes it, or doesn't get it in time.
	signals = "loop: addi r1 r0 0\nsys 10\naddi r1 r0 17\nsys 3\naddi r4 r4 1\nbeq r0 r0 loop"
	takes   = "loop: addi r1 r0 0\naddi r2 r0 25\nsys 11\nadd r5 r5 r1\naddi r5 r5 1\nsw r5 r0 132\naddi r1 r5 0\nsys 6\nbeq r0 r0 loop"
)

func assembled(t *testing.T, source string) string {
	t.Helper()
	words, err := isa.Assemble(source)
	if err != nil {
		t.Fatalf("%q: %v", source, err)
	}
	return string(isa.Bytes(words))
}

// someProgram: a plan that does something; port 0 leads out, port 1 in.
func someProgram(t *testing.T, r *rand.Rand) api.Plan {
	t.Helper()
	p := api.Plan{Procs: []api.ProcPlan{{Prio: r.Intn(256), Auto: true}}, Events: r.Intn(3), Sems: []int{r.Intn(3)}}
	p.Ports = []api.PortPlan{{Kind: api.SampleOut, Size: 4, Depth: 1}, {Kind: api.QueueIn, Size: 4, Depth: 3}}
	if coin(r) {
		p.Ports[0] = api.PortPlan{Kind: api.QueueOut, Size: 4, Depth: 3}
	}
	second := ""
	code := one(r, counts, echoes, spreads, signals)
	if code == signals {
		second = assembled(t, takes)
		p.Procs = append(p.Procs, api.ProcPlan{Entry: 64, Prio: r.Intn(256), Auto: true})
	}
	p.Pages = []api.PagePlan{{Rights: api.Read | api.Execute, Init: assembled(t, code)}, {Rights: api.Read | api.Execute, Init: second}}
	for range 4 {
		p.Pages = append(p.Pages, api.PagePlan{Rights: api.Read | api.Write, Init: string(someBytes(r, r.Intn(9)))})
	}
	if seldom(r, 6) { // anything at all: it fails sooner or later
		p.Pages[0].Init = string(someBytes(r, 64))
	}
	return p
}

// someConfig: a few partitions, of which the fixed ones may have channels.
func someConfig(t *testing.T, r *rand.Rand) api.Config {
	t.Helper()
	c := api.Config{Tries: one(r, 1, 2, 4, 8, 64, 64)}
	for i := range one(r, 1, 2, 3, 3, 4, 8) {
		p := someProgram(t, r)
		p.Id, p.Mobile = i, i == 0 || coin(r)
		c.Parts = append(c.Parts, p)
		c.Homes = append(c.Homes, r.Intn(2))
	}
	owners := r.Perm(len(c.Parts))
	if coin(r) {
		owners = append(owners, r.Intn(len(c.Parts)))
	}
	for range one(r, 1, 1, 2) {
		owners = slices.Insert(owners, r.Intn(len(owners)+1), api.Snap)
	}
	now := r.Intn(3)
	for _, part := range owners {
		long := one(r, 5, 12, 30)
		if part == api.Snap {
			long = one(r, 1, 4, 6, 10, 20, 40)
		}
		c.Windows = append(c.Windows, api.Window{Part: part, Start: now, Len: long})
		now += long + r.Intn(3)
	}
	c.Ticks = now + r.Intn(5)
	for range r.Intn(4) {
		l := api.Link{From: r.Intn(len(c.Parts)), Out: 0, To: r.Intn(len(c.Parts)), In: 1}
		if l.From != l.To && !c.Parts[l.From].Mobile && !c.Parts[l.To].Mobile {
			c.Links = append(c.Links, l)
		}
	}
	if err := frame.Check(c); err != nil {
		t.Fatalf("a random configuration isn't in form: %v at %d", err, api.Place(err))
	}
	return c
}

// someInputs: messages to all partitions, some of which nobody takes.
func someInputs(r *rand.Rand, c api.Config) []api.Input {
	var l []api.Input
	for range r.Intn(40) {
		l = append(l, api.Input{Part: r.Intn(len(c.Parts)), Frame: r.Intn(30), Port: one(r, 1, 1, 1, 1, 0, 2, -1), Data: string(someBytes(r, r.Intn(6)))})
	}
	if seldom(r, 4) {
		l = append(l, api.Input{Part: -1}, api.Input{Part: 99, Frame: math.MinInt}, api.Input{Frame: -1})
	}
	return l
}

// someLetter: the number of a letter that is under way, as a rule.
func someLetter(r *rand.Rand, p *pair.Pair) int {
	l := append(p.Waiting(0), p.Waiting(1)...)
	if len(l) == 0 || seldom(r, 60) {
		return one(r, -1, 0, 1, 2, 1000)
	}
	if seldom(r, 3) { // the newest one: so something comes through, also where much is under way
		return slices.Max(l)
	}
	return one(r, l...)
}

// someOps: a step, or a few that belong together.
func someOps(r *rand.Rand, p *pair.Pair, c api.Config, calm int) []api.Op {
	switch l := append(p.Waiting(0), p.Waiting(1)...); {
	case len(l) > 0 && seldom(r, 4): // all that is under way comes
		r.Shuffle(len(l), func(i, k int) { l[i], l[k] = l[k], l[i] })
		var ops []api.Op
		for _, n := range l[:min(len(l), 12)] {
			ops = append(ops, api.Op{Kind: api.OpDeliver, A: n})
		}
		return ops
	case seldom(r, 100*calm): // down and up with no boundary between
		m := r.Intn(2)
		return []api.Op{{Kind: api.OpCrash, A: m}, {Kind: api.OpUp, A: m}, {Kind: api.OpMove}, {Kind: api.OpMove, A: r.Intn(len(c.Parts))}}
	}
	return []api.Op{someOp(r, p, c, calm)}
}

// someOp: anything may befall; calm says how seldom it is something bad.
func someOp(r *rand.Rand, p *pair.Pair, c api.Config, calm int) api.Op {
	part := r.Intn(len(c.Parts))
	if seldom(r, 40) {
		part = one(r, -1, len(c.Parts), 8)
	}
	moved, _, phase, err := p.Moving()
	idle := len(p.Waiting(0))+len(p.Waiting(1)) == 0
	k := r.Intn(100)
	switch {
	case k < 4:
		return api.Op{Kind: one(r, api.OpUp, api.OpUp, api.OpMove), A: one(r, 0, 0, 0, 1, 1, 1, 2)}
	case k < 10 && seldom(r, calm) || k < 15 && seldom(r, calm) && phase >= 3:
		return badOp(r, p, part, moved)
	case k < 17 && err != nil:
		return api.Op{Kind: api.OpMove, A: part}
	case k < 18:
		return api.Op{Kind: one(r, 0, 11, -1, api.OpFrame, api.OpMove, api.OpAbort), A: part}
	case k < 22:
		return api.Op{Kind: api.OpCopy, A: someLetter(r, p)}
	case k < 36 || idle && !seldom(r, 10):
		return api.Op{Kind: api.OpFrame}
	}
	return api.Op{Kind: api.OpDeliver, A: someLetter(r, p)}
}

// badOp: what keeps a migration from its end.
func badOp(r *rand.Rand, p *pair.Pair, part, moved int) api.Op {
	switch r.Intn(10) {
	case 0, 1, 2:
		return api.Op{Kind: api.OpCrash, A: one(r, 0, 0, 0, 1, 1, 1, -1)}
	case 3, 4:
		return api.Op{Kind: api.OpDrop, A: someLetter(r, p)}
	case 5, 6:
		return api.Op{Kind: api.OpTrim, A: someLetter(r, p), B: one(r, 0, 1, 2, 27, 500)}
	case 7, 8:
		return api.Op{Kind: api.OpFlip, A: someLetter(r, p), B: r.Intn(300) - 2, C: one(r, 1, 2, 0, 1<<31, 1<<32-1, 1<<32)}
	}
	return api.Op{Kind: api.OpAbort, A: one(r, part, moved)}
}

// someScript: a configuration, inputs, and so many steps, or rows of them.
func someScript(t *testing.T, r *rand.Rand, rows int) api.Script {
	t.Helper()
	c := someConfig(t, r)
	s := api.Script{Config: c, Inputs: someInputs(r, c)}
	p, err := pair.New(c, s.Inputs)
	if err != nil {
		t.Fatalf("pair.New: %v", err)
	}
	calm := one(r, 1, 2, 5, 20)
	for range rows {
		for _, o := range someOps(r, p, c, calm) {
			p.Step(o)
			s.Ops = append(s.Ops, o)
		}
	}
	return s
}
