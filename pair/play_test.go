package pair_test

import (
	"fmt"
	"math/rand"
	"slices"
	"testing"

	"ferry/api"
	"ferry/frame"
	"ferry/pair"
	"ferry/part"
	"ferry/plan"
	"ferry/valid"
)

// alone is one partition without moving: its states and what it tells, by frame, as far as they were asked for.
type alone struct {
	t       *testing.T
	c       api.Config
	part    int
	inputs  []api.Input
	windows []api.Window
	states  []api.State
	outs    []api.Out
}

func newAlone(t *testing.T, c api.Config, n int, inputs []api.Input) *alone {
	t.Helper()
	a := &alone{t: t, c: c, part: n, inputs: inputs}
	s, err := plan.Boot(c.Parts[n])
	wantBare(t, "plan.Boot", err, nil)
	a.windows, err = frame.Windows(c, n)
	wantBare(t, "frame.Windows", err, nil)
	a.states = []api.State{s}
	return a
}

// at: the state of that frame, and what it tells in it.
func (a *alone) at(f int) (api.State, api.Out) {
	a.t.Helper()
	for len(a.outs) <= f {
		n := len(a.outs)
		var msgs []api.Msg
		for _, x := range a.inputs {
			if x.Part == a.part && x.Frame == n {
				msgs = append(msgs, api.Msg{Port: x.Port, Data: x.Data})
			}
		}
		s, out, err := part.Frame(a.c.Parts[a.part], a.states[n], a.c.Ticks, a.windows, msgs)
		wantBare(a.t, "part.Frame", err, nil)
		a.states, a.outs = append(a.states, s), append(a.outs, out)
	}
	return a.states[f], a.outs[f]
}

// watch holds what is told of each partition against what it does alone.
type watch struct {
	t       *testing.T
	c       api.Config
	alone   []*alone // nil of one that a channel joins
	crashes int
	told    []map[int]int // by partition: of each frame how many crashes there had been when it was last told
	lost    []bool
	begun   []bool // a migration of it began and hasn't ended
	seen    map[string]int
}

func newWatch(t *testing.T, c api.Config, inputs []api.Input, seen map[string]int) *watch {
	t.Helper()
	w := &watch{t: t, c: c, seen: seen, lost: make([]bool, len(c.Parts)), begun: make([]bool, len(c.Parts))}
	for i := range c.Parts {
		joined, err := frame.Joined(c, i)
		wantBare(t, "frame.Joined", err, nil)
		w.alone = append(w.alone, nil)
		if !joined {
			w.alone[i] = newAlone(t, c, i, inputs)
		}
		w.told = append(w.told, map[int]int{})
	}
	return w
}

// event: P24.6.
func (w *watch) event(e api.Event) {
	w.t.Helper()
	w.seen[fmt.Sprintf("event %d", e.Kind)]++
	if w.lost[e.Part] {
		w.t.Fatalf("P24.6: behind its loss: %+v", e)
	}
	switch e.Kind {
	case api.EventBegun:
		w.begun[e.Part] = true
	case api.EventOver, api.EventBack:
		if !w.begun[e.Part] {
			w.t.Fatalf("P24.6: a second end: %+v", e)
		}
		w.begun[e.Part] = false
	case api.EventAborted: // also of one that hadn't begun
		w.begun[e.Part] = false
	case api.EventLost:
		w.lost[e.Part] = true
	}
}

// out: P24.2, P24.3.
func (w *watch) out(x api.PartOut) {
	w.t.Helper()
	if w.lost[x.Part] && w.c.Parts[x.Part].Mobile {
		w.t.Fatalf("P24.6: behind its loss partition %d tells a frame", x.Part)
	}
	if before, is := w.told[x.Part][x.Frame]; is {
		w.seen["told twice"]++
		if before == w.crashes {
			w.t.Fatalf("P24.2: partition %d tells frame %d twice, and no module went down", x.Part, x.Frame)
		}
	}
	w.told[x.Part][x.Frame] = w.crashes
	if w.alone[x.Part] == nil {
		return
	}
	if _, out := w.alone[x.Part].at(x.Frame); !same(x.Out, out) {
		w.t.Fatalf("P24.3: partition %d tells in frame %d %+v, alone %+v", x.Part, x.Frame, x.Out, out)
	}
	if len(x.Out.Msgs) > 0 {
		w.seen["a message"]++
	}
}

// step: an answer, and the pair behind it.
func (w *watch) step(p *pair.Pair, o api.Op, a api.Answer) {
	w.t.Helper()
	if o.Kind == api.OpCrash && a.Code == 0 {
		w.crashes++
	}
	for _, e := range a.Events {
		w.event(e)
	}
	ran := map[int]int{}
	for _, x := range a.Outs {
		if ran[x.Part]++; ran[x.Part] > 1 {
			w.t.Fatalf("P24.2: partition %d runs on both modules", x.Part)
		}
		w.out(x)
	}
	for i, one := range w.alone {
		s, err := p.State(i)
		if err != nil || one == nil {
			continue
		}
		if alone, _ := one.at(s.Frame); !valid.Alike(s, alone) || s.Frame != alone.Frame {
			w.t.Fatalf("P24.3: partition %d in frame %d: %.500s", i, s.Frame, fmt.Sprintf("%+v", s))
		}
		if s.Epoch > 0 {
			w.seen["marked"]++
		}
	}
}

// TestPlays: P24.2, P24.3, P24.6: rows of any steps.
func TestPlays(t *testing.T) {
	t.Parallel()
	r := rand.New(rand.NewSource(242))
	seen := map[string]int{}
	for range 600 {
		c := someConfig(t, r)
		inputs := someInputs(r, c)
		p, w := newPair(t, c, inputs...), newWatch(t, c, inputs, seen)
		calm := one(r, 1, 2, 5, 20)
		for range 100 {
			for _, o := range someOps(r, p, c, calm) {
				w.step(p, o, p.Step(o))
			}
		}
	}
	wantEnough(t, seen, 20, "event 1", "event 2", "event 3", "event 4", "event 5", "event 6", "event 7", "event 8", "event 9", "told twice", "a message", "marked")
}

// TestCrashAtEachMoment: P24.2, P24.3, P24.6: a migration in which a module goes down at any one moment, and comes up again at any later one or never, while each letter comes through; in the end the partition runs somewhere, or is lost.
func TestCrashAtEachMoment(t *testing.T) {
	t.Parallel()
	r := rand.New(rand.NewSource(243))
	seen := map[string]int{}
	for down := range 45 {
		for _, again := range []int{0, 1, 4, 1000} {
			for m := range 2 {
				c := someConfig(t, r)
				inputs := someInputs(r, c)
				p, w := newPair(t, c, inputs...), newWatch(t, c, inputs, seen)
				do := func(o api.Op) { w.step(p, o, p.Step(o)) }
				do(api.Op{Kind: api.OpMove})
				for moment := range 70 {
					if moment == down {
						do(api.Op{Kind: api.OpCrash, A: m})
					}
					if moment == down+again {
						do(api.Op{Kind: api.OpUp, A: m})
					}
					l := append(p.Waiting(0), p.Waiting(1)...)
					if len(l) > 0 && !seldom(r, 8) {
						do(api.Op{Kind: api.OpDeliver, A: one(r, l...)})
					} else {
						do(api.Op{Kind: api.OpFrame})
					}
				}
				for range 70 {
					deliverAll(t, p, r)
					do(api.Op{Kind: api.OpFrame})
				}
				wantStill(t, p)
				if _, err := p.Where(0); err != nil {
					wantBare(t, "P24.6: in the end", err, api.ErrLost)
				}
			}
		}
	}
	wantEnough(t, seen, 5, "event 5", "event 7", "event 8", "event 9")
}

// units: how many steps a job of that image takes.
func units(p api.Plan, pages int) int { return 3 + len(p.Procs) + len(p.Ports) + pages }

// frames: how many frames a job of so many units takes.
func frames(units, ticks int) int { return (units + ticks - 1) / ticks }

// settled: a pair behind some history, whose letters are all spent; both modules are up, and nothing is being moved.
func settled(t *testing.T, r *rand.Rand, c api.Config, inputs []api.Input) *pair.Pair {
	t.Helper()
	p := newPair(t, c, inputs...)
	calm := one(r, 1, 4, 20)
	for range one(r, 0, 0, 20, 60) {
		for _, o := range someOps(r, p, c, calm) {
			p.Step(o)
		}
	}
	for m := range 2 {
		p.Step(api.Op{Kind: api.OpUp, A: m})
		for _, n := range p.Waiting(m) {
			if _, spoilt, _ := p.Letter(n); spoilt || seldom(r, 3) {
				p.Step(api.Op{Kind: api.OpDrop, A: n})
			}
		}
	}
	for {
		if _, _, _, err := p.Moving(); err != nil {
			return p
		}
		deliverAll(t, p, r)
		p.Step(api.Op{Kind: api.OpFrame})
	}
}

// TestArrives: P24.4: where all goes well it runs on the other module from the sixth frame on, and is over at the seventh one's boundary, or as many frames later as packing needs.
func TestArrives(t *testing.T) {
	t.Parallel()
	r := rand.New(rand.NewSource(244))
	seen := map[string]int{}
	for range 1000 {
		c := someConfig(t, r)
		p := settled(t, r, c, someInputs(r, c))
		n := r.Intn(len(c.Parts))
		from, err := p.Where(n)
		if err != nil || !c.Parts[n].Mobile {
			continue
		}
		wantStep(t, p, fmt.Sprintf("move %d", n), nil, 0)
		ticks, err := frame.Load(c, api.Snap)
		wantBare(t, "frame.Load", err, nil)
		later := frames(units(c.Parts[n], len(c.Parts[n].Pages)), ticks) - 1
		var began, over int
		var events []int
		for i := 1; i <= 60 && over == 0; i++ {
			a := p.Step(api.Op{Kind: api.OpFrame})
			for _, e := range a.Events {
				events = append(events, e.Kind)
				switch e.Kind {
				case api.EventFrozen:
					s, err := p.State(n)
					wantBare(t, "P24.4: State", err, nil)
					dirty := 0
					for _, q := range s.Pages {
						if q.Dirty {
							dirty++
						}
					}
					later += frames(units(c.Parts[n], dirty), ticks) - 1
				case api.EventOver:
					over = i
				}
			}
			for _, x := range a.Outs {
				if x.Part == n && x.Module != from && began == 0 {
					began = i
				}
			}
			deliverAll(t, p, r)
		}
		if began != 6+later || over != 7+later || !slices.Equal(events, []int{1, 2, 3, 4, 5}) {
			t.Fatalf("P24.4: it began at frame %d and was over at %d; %d frames for packing; events %v", began, over, later, events)
		}
		if m, err := p.Where(n); err != nil || m != 1-from {
			t.Fatalf("P24.4: it is at %d, %v", m, err)
		}
		seen[fmt.Sprint("later ", min(later, 3))]++
		seen[fmt.Sprint("from ", from)]++
	}
	wantEnough(t, seen, 20, "later 0", "later 1", "later 2", "later 3", "from 0", "from 1")
}

// quiet: is it one of the steps that P24.5 leaves in?
func quiet(o api.Op) bool {
	switch o.Kind {
	case api.OpMove, api.OpAbort, api.OpDeliver, api.OpCopy, api.OpDrop, api.OpTrim, api.OpFlip:
		return false
	}
	return true
}

// TestNobodyNotices: P24.5: what isn't moved does what it does in the script without migrations and letters.
func TestNobodyNotices(t *testing.T) {
	t.Parallel()
	r := rand.New(rand.NewSource(245))
	seen := map[string]int{}
	for range 400 {
		c := someConfig(t, r)
		inputs := someInputs(r, c)
		p, q := newPair(t, c, inputs...), newPair(t, c, inputs...)
		calm := one(r, 1, 3, 10)
		spared := r.Intn(len(c.Parts)) // and perhaps others, too: at least this one is never named
		if len(c.Parts) == 1 {
			spared = -1
		}
		named := make([]bool, len(c.Parts))
		told := [2][][]api.PartOut{}
		states := [2][][]api.State{}
		for range 80 {
			for _, o := range someOps(r, p, c, calm) {
				if o.Kind == api.OpMove && o.A == spared {
					continue
				}
				if o.Kind == api.OpMove && o.A >= 0 && o.A < len(c.Parts) {
					named[o.A] = true
				}
				a := p.Step(o)
				if !quiet(o) {
					continue
				}
				b := q.Step(o)
				if a.Code != b.Code {
					t.Fatalf("P24.5: %+v: code %d, alone %d", o, a.Code, b.Code)
				}
				told[0], told[1] = append(told[0], a.Outs), append(told[1], b.Outs)
				states[0], states[1] = append(states[0], allStates(p, c)), append(states[1], allStates(q, c))
				if len(a.Events) > 0 {
					seen["events"]++
				}
			}
		}
		for i := range c.Parts {
			if named[i] {
				continue
			}
			for k := range told[0] {
				if a, b := of(told[0][k], i), of(told[1][k], i); !same(a, b) {
					t.Fatalf("P24.5: partition %d, step %d: %+v, without the moves %+v", i, k, a, b)
				}
				if !same(states[0][k][i], states[1][k][i]) {
					t.Fatalf("P24.5: partition %d, step %d: its state is another one", i, k)
				}
			}
			seen["not named"]++
			if c.Parts[i].Mobile {
				seen["mobile and not named"]++
			}
		}
	}
	wantEnough(t, seen, 50, "events", "not named", "mobile and not named")
}

// of: what is told of the partition.
func of(l []api.PartOut, n int) []api.PartOut {
	return slices.DeleteFunc(slices.Clone(l), func(x api.PartOut) bool { return x.Part != n })
}

// allStates: of each partition, the zero State where there is an error.
func allStates(p *pair.Pair, c api.Config) []api.State {
	var l []api.State
	for i := range c.Parts {
		s, _ := p.State(i)
		l = append(l, s)
	}
	return l
}
