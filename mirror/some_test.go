package mirror_test

import (
	"math"
	"math/rand"
	"slices"
	"testing"

	"ferry/api"
	"ferry/frame"
	"ferry/isa"
)

// The programs of the plays: what they do hangs on ticks, messages, timers, and what they did before.
const (
	// counts: a byte each frame; then it sleeps.
	counts = "loop: addi r4 r4 7\nsb r4 r0 128\naddi r1 r0 0\naddi r2 r0 128\naddi r3 r0 1\nsys 13\naddi r1 r0 41\nsys 3\nbeq r0 r0 loop"
	// echoes what comes to port 1 at port 0, and waits for more.
	echoes = "loop: addi r1 r0 1\naddi r2 r0 128\nsys 12\naddi r3 r1 0\naddi r1 r0 0\naddi r2 r0 128\nsys 13\naddi r1 r0 1\naddi r2 r0 -1\nsys 14\nbeq r0 r0 loop"
	// spreads: writes all over its pages as fast as it can, and tells the time now and then.
	spreads = "loop: addi r4 r4 3\nandi r5 r4 252\nsw r4 r5 128\nandi r6 r4 15\nbne r6 r0 loop\nsys 5\nadd r7 r7 r1\naddi r1 r7 0\nsys 6\nbeq r0 r0 loop"
	// signals a semaphore every 17 ticks; a second process, from 64 on, takes it, or doesn't get it in time.
	signals = "loop: addi r1 r0 0\nsys 10\naddi r1 r0 17\nsys 3\naddi r4 r4 1\nbeq r0 r0 loop"
	takes   = "loop: addi r1 r0 0\naddi r2 r0 25\nsys 11\nadd r5 r5 r1\naddi r5 r5 1\nsw r5 r0 132\naddi r1 r5 0\nsys 6\nbeq r0 r0 loop"
)

func assembled(t *testing.T, source string) string {
	t.Helper()
	words, err := isa.Assemble(source)
	if err != nil {
		t.Fatalf("%q: %v", source, err)
	}
	return string(isa.Bytes(words))
}

// someProgram: a plan that does something; port 0 leads out, port 1 in.
func someProgram(t *testing.T, r *rand.Rand, id int) api.Plan {
	t.Helper()
	p := api.Plan{Id: id, Mobile: coin(r), Procs: []api.ProcPlan{{Prio: r.Intn(256), Auto: true}}, Events: r.Intn(3), Sems: []int{r.Intn(3)}}
	p.Ports = []api.PortPlan{{Kind: api.SampleOut, Size: 4, Depth: 1}, {Kind: api.QueueIn, Size: 4, Depth: 3}}
	if coin(r) {
		p.Ports[0] = api.PortPlan{Kind: api.QueueOut, Size: 4, Depth: 3}
	}
	if seldom(r, 4) {
		p.Ports[1] = api.PortPlan{Kind: api.SampleIn, Size: 4, Depth: 1, Refresh: 2}
	}
	second := ""
	code := one(r, counts, echoes, echoes, spreads, signals)
	if code == signals {
		second = assembled(t, takes)
		p.Procs = append(p.Procs, api.ProcPlan{Entry: 64, Prio: r.Intn(256), Auto: true})
	}
	p.Pages = []api.PagePlan{{Rights: api.Read | api.Execute, Init: assembled(t, code)}, {Rights: api.Read | api.Execute, Init: second}}
	for range 4 {
		p.Pages = append(p.Pages, api.PagePlan{Rights: api.Read | api.Write, Init: string(someBytes(r, r.Intn(9)))})
	}
	if seldom(r, 8) { // anything at all: it fails sooner or later
		p.Pages[0].Init = string(someBytes(r, 64))
	}
	return p
}

// someConfig: a few partitions, and one of them that no channel joins to another.
func someConfig(t *testing.T, r *rand.Rand) (api.Config, int) {
	t.Helper()
	c := api.Config{Ticks: 60 + r.Intn(60)}
	n := one(r, 1, 2, 3, 5, 8)
	self := r.Intn(n)
	own := make([]int, c.Ticks)
	for range 1 + r.Intn(3) {
		lay(own, r.Intn(c.Ticks-20), self+1, 1+r.Intn(20))
	}
	for i := range n {
		c.Parts = append(c.Parts, someProgram(t, r, i))
	}
	for at, owner := range own {
		if owner != 0 && (at == 0 || own[at-1] == 0) {
			w := api.Window{Part: self, Start: at, Len: 1}
			for at+w.Len < len(own) && own[at+w.Len] != 0 {
				w.Len++
			}
			c.Windows = append(c.Windows, w)
		}
	}
	return otherwise(t, r, c, self), self
}

// lay: so many ticks from that one on are the owner's, as far as they are nobody's yet.
func lay(owners []int, at, owner, ticks int) {
	for ; ticks > 0 && at < len(owners) && owners[at] == 0; ticks-- {
		owners[at] = owner
		at++
	}
}

// otherwise: a configuration in form in which all is new but Ticks, that partition and its windows.
func otherwise(t *testing.T, r *rand.Rand, c api.Config, self int) api.Config {
	t.Helper()
	fresh := api.Config{Ticks: c.Ticks, Tries: 1 + r.Intn(64)}
	for i := range len(c.Parts) + r.Intn(2) {
		p := someProgram(t, r, i)
		if i == self {
			p = c.Parts[i]
		}
		if i < 8 {
			fresh.Parts, fresh.Homes = append(fresh.Parts, p), append(fresh.Homes, r.Intn(2))
		}
	}
	fresh.Windows = someWindows(r, c, self, len(fresh.Parts))
	for range one(r, 0, 1, 4, 16) {
		from, to := r.Intn(len(fresh.Parts)), r.Intn(len(fresh.Parts))
		if from != to && from != self && to != self {
			fresh.Parts[from].Mobile, fresh.Parts[to].Mobile = false, false
			fresh.Links = append(fresh.Links, api.Link{From: from, Out: 0, To: to, In: 1})
		}
	}
	wantBare(t, "a random configuration is in form", frame.Check(fresh), nil)
	return fresh
}

// someWindows: those of that partition stay, and so many others, and the snapshot work, get some between them.
func someWindows(r *rand.Rand, c api.Config, self, parts int) []api.Window {
	taken := make([]bool, c.Ticks)
	var windows []api.Window
	for _, w := range c.Windows {
		if w.Part == self {
			windows = append(windows, w)
			for i := range w.Len {
				taken[w.Start+i] = true
			}
		}
	}
	for part := api.Snap; part < parts; part++ {
		for part != self {
			w := api.Window{Part: part, Start: r.Intn(c.Ticks)}
			for w.Start+w.Len < c.Ticks && !taken[w.Start+w.Len] && w.Len < 4 {
				taken[w.Start+w.Len] = true
				w.Len++
			}
			if w.Len > 0 {
				windows = append(windows, w)
				break
			}
		}
	}
	slices.SortFunc(windows, func(a, b api.Window) int { return a.Start - b.Start })
	return windows
}

// someInput: a message in one of so many frames; some of them nobody takes.
func someInput(r *rand.Rand, part, frames int) api.Input {
	return api.Input{Part: part, Frame: r.Intn(frames), Port: one(r, 1, 1, 1, 1, 0, 2, -1), Data: string(someBytes(r, r.Intn(6)))}
}

// someInputs: messages to all partitions, and to some that there are not, in frames that there are not, too.
func someInputs(r *rand.Rand, c api.Config, frames int) []api.Input {
	var l []api.Input
	for range r.Intn(60) {
		l = append(l, someInput(r, r.Intn(len(c.Parts)), frames))
	}
	if seldom(r, 4) {
		l = append(l, api.Input{Part: -1}, api.Input{Part: 99, Frame: math.MinInt}, api.Input{Frame: -1}, api.Input{Frame: math.MaxInt})
	}
	r.Shuffle(len(l), func(i, k int) { l[i], l[k] = l[k], l[i] })
	return l
}
