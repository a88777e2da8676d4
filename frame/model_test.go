package frame_test

import (
	"math"
	"math/rand"
	"slices"
	"testing"

	"ferry/api"
	"ferry/frame"
	"ferry/plan"
)

// someConfig: a configuration in form.
func someConfig(r *rand.Rand) api.Config {
	c := api.Config{Ticks: one(r, 32, 40, 100, 9999, 10000), Tries: one(r, 1, 2, 63, 64)}
	for i := range 1 + r.Intn(8) {
		c.Parts = append(c.Parts, somePart(r, i))
		c.Homes = append(c.Homes, r.Intn(2))
	}
	c.Windows = someWindows(r, c)
	for range r.Intn(17) {
		if l, found := someLink(r, c); found {
			c.Links = append(c.Links, l)
		}
	}
	return roomy(c)
}

func somePart(r *rand.Rand, id int) api.Plan {
	p := api.Plan{Id: id, Mobile: r.Intn(5) == 0, Pages: make([]api.PagePlan, 1+r.Intn(2)), Procs: make([]api.ProcPlan, 1+r.Intn(2))}
	for range r.Intn(5) {
		q := api.PortPlan{Kind: 1 + r.Intn(4), Size: 1 + r.Intn(32), Depth: 1}
		p.Ports = append(p.Ports, q)
	}
	return p
}

// someWindows: one at least of each owner, one behind the other.
func someWindows(r *rand.Rand, c api.Config) []api.Window {
	owners := r.Perm(len(c.Parts))
	if r.Intn(4) > 0 || slices.ContainsFunc(c.Parts, func(p api.Plan) bool { return p.Mobile }) {
		owners = append(owners, api.Snap)
	}
	for range r.Intn(33 - len(owners)) {
		owners = append(owners, r.Intn(len(c.Parts)+1)-1)
	}
	if !slices.ContainsFunc(c.Parts, func(p api.Plan) bool { return p.Mobile }) && r.Intn(3) == 0 {
		owners = slices.DeleteFunc(owners, func(x int) bool { return x == api.Snap })
	}
	r.Shuffle(len(owners), func(i, k int) { owners[i], owners[k] = owners[k], owners[i] })
	var windows []api.Window
	at := 0
	for i, part := range owners {
		// A tick is left for each of those behind.
		spare := c.Ticks - at - (len(owners) - i)
		gap := r.Intn(min(spare, r.Intn(6)) + 1)
		n := 1 + r.Intn(min(spare-gap, one(r, 0, 3, 400))+1)
		if i == len(owners)-1 && r.Intn(2) == 0 {
			n = c.Ticks - at - gap
		}
		windows = append(windows, api.Window{Part: part, Start: at + gap, Len: n})
		at += gap + n
	}
	return windows
}

// someLink: between two that aren't mobile and have such ports.
func someLink(r *rand.Rand, c api.Config) (api.Link, bool) {
	for range 20 {
		l := api.Link{From: r.Intn(len(c.Parts)), To: r.Intn(len(c.Parts)), Out: r.Intn(4), In: r.Intn(4)}
		c.Links = []api.Link{l}
		if len(linkVerdicts(c)) == 0 {
			return l, true
		}
	}
	return api.Link{}, false
}

// verdict is what Check is to answer.
type verdict struct {
	err   error
	place int
}

// verdicts: all rules that a configuration breaks, in the order of the table.
func verdicts(c api.Config) []verdict {
	var all []verdict
	rule := func(kept bool, err error, place int) {
		if !kept {
			all = append(all, verdict{err, place})
		}
	}
	rule(c.Ticks > 0 && c.Ticks <= 10000, api.ErrRange, -1)
	rule(c.Tries > 0 && c.Tries <= 64, api.ErrRange, -1)
	rule(len(c.Parts) > 0 && len(c.Parts) < 9, api.ErrSize, -1)
	for i, p := range c.Parts {
		rule(plan.Check(p) == nil, api.ErrPlan, i)
		rule(p.Id == i, api.ErrArg, i)
	}
	rule(len(c.Homes) == len(c.Parts), api.ErrSize, -1)
	for i, home := range c.Homes {
		rule(home == 0 || home == 1, api.ErrRange, i)
	}
	rule(len(c.Windows) < 33, api.ErrSize, -1)
	last := -1.0
	for i, w := range c.Windows {
		rule(w.Part >= -1 && w.Part < len(c.Parts), api.ErrArg, i)
		// As numbers that don't wrap.
		start, n := float64(w.Start), float64(w.Len)
		rule(start >= 0 && n >= 1 && start+n-1 <= float64(c.Ticks)-1, api.ErrRange, i)
		rule(start > last, api.ErrBusy, i)
		last = start + n - 1
	}
	has := func(part int) bool {
		return slices.IndexFunc(c.Windows, func(w api.Window) bool { return w.Part == part }) >= 0
	}
	for i := range c.Parts {
		rule(has(i), api.ErrNone, i)
	}
	rule(len(c.Links) < 17, api.ErrSize, -1)
	all = append(all, linkVerdicts(c)...)
	rule(has(-1) || !slices.ContainsFunc(c.Parts, func(p api.Plan) bool { return p.Mobile }), api.ErrNone, -1)
	return all
}

func linkVerdicts(c api.Config) []verdict {
	var all []verdict
	for i, l := range c.Links {
		if l.From == l.To || min(l.From, l.To) < 0 || max(l.From, l.To) >= len(c.Parts) {
			all = append(all, verdict{api.ErrArg, i})
			continue
		}
		from, to := c.Parts[l.From], c.Parts[l.To]
		if from.Mobile || to.Mobile {
			all = append(all, verdict{api.ErrPlan, i})
		}
		if kindOf(from, l.Out) != 0 || kindOf(to, l.In) != 1 {
			all = append(all, verdict{api.ErrKind, i})
		}
	}
	return all
}

// kindOf: 0 a port out, 1 a port in, 2 none.
func kindOf(p api.Plan, n int) int {
	if n < 0 || n >= len(p.Ports) {
		return 2
	}
	return p.Ports[n].Kind % 2
}

// wrongs: ways to break a configuration, each at a place of its own choice.
func wrongs(r *rand.Rand) []func(c *api.Config) {
	far := func() int { return one(r, -1, -2, math.MinInt, math.MaxInt, 1<<32, 8, 0, 1, 2, 10000, 10001) }
	return []func(c *api.Config){
		func(c *api.Config) { c.Ticks = one(r, far(), c.Ticks-1, 50) },
		func(c *api.Config) { c.Tries = one(r, far(), 65) },
		func(c *api.Config) { c.Parts = c.Parts[:len(c.Parts)*r.Intn(2)] },
		func(c *api.Config) { c.Parts = append(c.Parts, somePart(r, len(c.Parts))) },
		func(c *api.Config) { pick(r, c.Parts).Id = one(r, far(), 3) },
		func(c *api.Config) { pick(r, c.Parts).Procs = nil },
		func(c *api.Config) { pick(r, c.Parts).Mobile = true },
		func(c *api.Config) { c.Homes = append(c.Homes, 0) },
		func(c *api.Config) { *pick(r, c.Homes) = far() },
		func(c *api.Config) { c.Windows = append(c.Windows, *pick(r, c.Windows)) },
		func(c *api.Config) { c.Windows = append(c.Windows, make([]api.Window, 33)...) },
		func(c *api.Config) { pick(r, c.Windows).Part = one(r, far(), 3, -1) },
		func(c *api.Config) { pick(r, c.Windows).Start += one(r, -1, 1, far()) },
		func(c *api.Config) { pick(r, c.Windows).Len += one(r, -1, 1, far()) },
		func(c *api.Config) { *pick(r, c.Windows) = *pick(r, c.Windows) },
		func(c *api.Config) {
			gone := far()
			c.Windows = slices.DeleteFunc(c.Windows, func(w api.Window) bool { return w.Part == gone })
		},
		func(c *api.Config) { c.Links = append(c.Links, make([]api.Link, 17)...) },
		func(c *api.Config) { c.Links = append(c.Links, api.Link{From: r.Intn(3), To: r.Intn(3)}) },
		func(c *api.Config) { pick(r, c.Links).From = one(r, far(), 3) },
		func(c *api.Config) { pick(r, c.Links).To = one(r, far(), 3) },
		func(c *api.Config) { pick(r, c.Links).Out = one(r, far(), 3) },
		func(c *api.Config) { pick(r, c.Links).In = one(r, far(), 3) },
	}
}

// pick: one of the list's; where there is none, one that belongs to nothing.
func pick[T any](r *rand.Rand, list []T) *T {
	if len(list) == 0 {
		return new(T)
	}
	return &list[r.Intn(len(list))]
}

// TestCheckAgainstModel: configurations in form and ones with some faults at once.
func TestCheckAgainstModel(t *testing.T) {
	r := rand.New(rand.NewSource(141))
	seen := map[error]int{}
	for n := range 30000 {
		c := someConfig(r)
		for range n % 4 {
			one(r, wrongs(r)...)(&c)
		}
		wanted := append(verdicts(c), verdict{nil, -1})[0]
		seen[wanted.err]++
		want(t, "P14.1: Check", frame.Check(c), wanted.err, wanted.place)
		if wanted.err != nil && n%8 == 1 {
			wantPlanError(t, c)
		}
		if !frame.Same(c, roomy(c)) {
			t.Errorf("P14.1: a copy isn't Same: %v", c)
		}
	}
	for _, err := range []error{nil, api.ErrRange, api.ErrSize, api.ErrPlan, api.ErrArg, api.ErrBusy, api.ErrNone, api.ErrKind} {
		if seen[err] < 200 {
			t.Errorf("%v came about only %d times", err, seen[err])
		}
	}
}

// nobodys: whose a tick is that no window has.
const nobodys = -2

// owners: whose each tick is; and each tick is one owner's at most.
func owners(t *testing.T, c api.Config) []int {
	t.Helper()
	whose := slices.Repeat([]int{nobodys}, c.Ticks)
	for _, w := range c.Windows {
		for i := range w.Len {
			if whose[w.Start+i] != nobodys {
				t.Errorf("P14.2: tick %d is two owners'", w.Start+i)
			}
			whose[w.Start+i] = w.Part
		}
	}
	return whose
}

// TestTicksAgainstModel: P14.2, against a table of the ticks.
func TestTicksAgainstModel(t *testing.T) {
	r := rand.New(rand.NewSource(142))
	for range 1500 {
		c := someConfig(r)
		look := kept(t, c)
		whose := owners(t, c)
		sum := 0
		for part := api.Snap; part < len(c.Parts); part++ {
			sum += wantLoad(t, c, whose, part)
		}
		idle, err := frame.Idle(c)
		wantBare(t, "P14.2: Idle", err, nil)
		if idle+sum != c.Ticks {
			t.Errorf("P14.2: Loads %d and Idle %d of %d ticks", sum, idle, c.Ticks)
		}
		for range 20 {
			wantTick(t, c, whose, r.Intn(c.Ticks), r.Intn(len(c.Parts)+1)-1)
		}
		w := *pick(r, c.Windows)
		for _, tick := range []int{w.Start - 1, w.Start, w.Start + w.Len - 1, w.Start + w.Len} {
			if tick >= 0 && tick < c.Ticks {
				wantTick(t, c, whose, tick, w.Part)
			}
		}
		look("the calls about ticks")
	}
}

// wantLoad looks at Load and Windows of one owner, and answers its ticks.
func wantLoad(t *testing.T, c api.Config, whose []int, part int) int {
	t.Helper()
	n := 0
	for _, x := range whose {
		if x == part {
			n++
		}
	}
	load, err := frame.Load(c, part)
	wantBare(t, "P14.2: Load", err, nil)
	windows, err := frame.Windows(c, part)
	wantBare(t, "P14.2: Windows", err, nil)
	for _, w := range c.Windows {
		if w.Part == part {
			if len(windows) == 0 || windows[0] != w {
				t.Fatalf("P14.2: Windows(%d) lacks %v", part, w)
			}
			windows = windows[1:]
		}
	}
	if load != n || len(windows) > 0 {
		t.Errorf("P14.2: Load(%d) = %d, want %d; windows too many: %v", part, load, n, windows)
	}
	return n
}

// wantTick looks at At and Next of one tick.
func wantTick(t *testing.T, c api.Config, whose []int, tick, part int) {
	t.Helper()
	at, err := frame.At(c, tick)
	if whose[tick] == nobodys {
		wantBare(t, "P14.2: At", err, api.ErrNone)
	} else if wantBare(t, "P14.2: At", err, nil); at != whose[tick] {
		t.Errorf("P14.2: At(%d) = %d, want %d", tick, at, whose[tick])
	}
	next, err := frame.Next(c, part, tick)
	n := slices.Index(whose[tick:], part)
	if n < 0 {
		wantBare(t, "P14.2: Next", err, api.ErrNone)
	} else if wantBare(t, "P14.2: Next", err, nil); next != tick+n {
		t.Errorf("P14.2: Next(%d, %d) = %d, want %d", part, tick, next, tick+n)
	}
}

// TestCarryAgainstModel: P14.3 link by link, where each message is told by its Data: none is lost, doubled or changed. And Joined, Boots.
func TestCarryAgainstModel(t *testing.T) {
	r := rand.New(rand.NewSource(143))
	carried := 0
	for range 3000 {
		c := someConfig(r)
		here, emitted := make([]bool, len(c.Parts)), make([][]api.Msg, len(c.Parts))
		for i := range here {
			here[i] = r.Intn(4) > 0
			for k := range r.Intn(9) {
				emitted[i] = append(emitted[i], api.Msg{Port: r.Intn(6) - 1, Data: string([]byte{byte(i), byte(k)})})
			}
			emitted[i] = withRoom(emitted[i], api.Msg{Port: r.Intn(4), Data: "spare"})
		}
		here, emitted = withRoom(here, true), withRoom(emitted, nil)
		look := kept(t, c, here, emitted)
		got, err := frame.Carry(c, here, emitted)
		wantBare(t, "P14.3: Carry", err, nil)
		look("Carry")
		wantApart(t, "Carry", c, here, emitted, got)
		if len(got) != len(c.Parts) {
			t.Fatalf("P14.3: Carry answers %d lists for %d partitions", len(got), len(c.Parts))
		}
		for _, l := range c.Links {
			for _, m := range emitted[l.From] {
				if m.Port != l.Out || !here[l.From] || !here[l.To] {
					continue
				}
				if len(got[l.To]) == 0 || got[l.To][0] != (api.Msg{Port: l.In, Data: m.Data}) {
					t.Fatalf("P14.3: link %v doesn't bring %v next: %v", l, m, got[l.To])
				}
				got[l.To] = got[l.To][1:]
				carried++
			}
		}
		for i := range got {
			if len(got[i]) > 0 {
				t.Errorf("P14.3: Carry brings %v besides", got[i])
			}
		}
		wantOthers(t, c)
	}
	if carried < 2000 {
		t.Errorf("only %d messages were carried", carried)
	}
}

// wantOthers looks at Joined and Boots.
func wantOthers(t *testing.T, c api.Config) {
	t.Helper()
	var boots [2][]int
	for i, home := range c.Homes {
		boots[home] = append(boots[home], i)
		n := 0
		for _, l := range c.Links {
			if l.From == i || l.To == i {
				n++
			}
		}
		joined, err := frame.Joined(c, i)
		wantBare(t, "P14.2: Joined", err, nil)
		if joined != (n > 0) {
			t.Errorf("P14.2: Joined(%d) = %v, of %d links", i, joined, n)
		}
	}
	for module, wanted := range boots {
		got, err := frame.Boots(c, module)
		wantBare(t, "P14.2: Boots", err, nil)
		if !slices.Equal(got, wanted) {
			t.Errorf("P14.2: Boots(%d) = %v, want %v", module, got, wanted)
		}
	}
}
