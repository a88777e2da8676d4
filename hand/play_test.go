package hand_test

import (
	"fmt"
	"math/rand"
	"slices"
	"testing"

	"ferry/api"
	"ferry/chunk"
	"ferry/hand"
	"ferry/valid"
)

// side is a module as far as one partition goes.
type side struct {
	boot, last int // boot 0: it is down
	knows      int // the other's boot, as it was at the last boundary
	runs       bool
	state      api.State
	spare      hand.Spare
}

// letter is a note under way.
type letter struct {
	to int
	n  api.Note
}

// world is two modules between which one partition goes to and fro: what layer 24 makes of hand's deeds.
type world struct {
	t     *testing.T
	r     *rand.Rand
	p     api.Plan
	sides [2]side
	owner int
	lost  bool

	on    bool // there is a migration
	from  int
	src   hand.Source
	wait  int    // boundaries till the image is ready
	job   []byte // the image that is being packed
	ready []byte

	under []letter
	asked [2]int
	alone []api.State           // by frame: the state that it has then without moving
	taken map[api.Xid]api.State // of each migration: the mark of the full image
	froze map[api.Xid]api.State // and the state that was frozen
	seen  map[string]int
}

const worldPart = 5

func newWorld(t *testing.T, r *rand.Rand, seen map[string]int) *world {
	t.Helper()
	w := &world{t: t, r: r, taken: map[api.Xid]api.State{}, froze: map[api.Xid]api.State{}, seen: seen}
	w.p = api.Plan{Id: 9, Mobile: true, Pages: slices.Repeat([]api.PagePlan{{Rights: 3}}, 3), Procs: []api.ProcPlan{{Auto: true}}}
	s := api.State{Id: 9, Procs: []api.Proc{{State: api.Ready}}, Ready: []int{0}, Pages: slices.Repeat([]api.Page{{Rights: 3}}, 3)}
	w.alone = []api.State{s}
	for i := range w.sides {
		w.sides[i] = side{boot: 1, last: 1, knows: 1, spare: hand.Spare{Peer: 1}}
	}
	w.owner = r.Intn(2)
	w.sides[w.owner].runs, w.sides[w.owner].state = true, s
	return w
}

// onward: the state a frame later: a register changes, and a page that the frame's number chooses.
func onward(s api.State) api.State {
	s = valid.Copy(s)
	s.Procs[0].Regs[4] += uint32(7 * s.Frame)
	q := &s.Pages[s.Frame*s.Frame%3]
	q.Data[s.Frame%64]++
	q.Dirty = true
	s.Frame++
	return s
}

// move: a migration is asked for, if one may be.
func (w *world) move() bool {
	w.t.Helper()
	if w.lost || w.on || w.sides[0].boot == 0 || w.sides[1].boot == 0 || !w.sides[w.owner].runs {
		return false
	}
	w.asked[w.owner]++
	x := api.Xid{Boot: w.sides[w.owner].boot, Peer: w.sides[1-w.owner].boot, Num: 2*w.asked[w.owner] + w.owner}
	s, err := hand.Begin(worldPart, x)
	wantBare(w.t, "P23.1: Begin", err, nil)
	w.on, w.from, w.src, w.job, w.ready = true, w.owner, s, nil, nil
	return true
}

func (w *world) abort() {
	w.t.Helper()
	if !w.on {
		return
	}
	wanted := error(nil)
	if w.src.Phase == hand.Released {
		wanted = api.ErrBusy
	}
	s, err := hand.Ask(w.p, w.src)
	wantBare(w.t, "P23.1: Ask", err, wanted)
	if err == nil {
		w.src = s
	}
}

func (w *world) crash(m int) {
	w.sides[m].boot, w.sides[m].runs, w.sides[m].spare = 0, false, hand.Spare{}
	if w.on && w.from == m {
		w.on, w.src = false, hand.Source{}
	}
}

func (w *world) up(m int) {
	x := &w.sides[m]
	if x.boot == 0 {
		x.last++
		x.boot, x.knows = x.last, 0
	}
}

// deliver: a letter comes, and is gone.
func (w *world) deliver(i int) {
	w.t.Helper()
	l := w.under[i]
	w.under = slices.Delete(w.under, i, i+1)
	x := &w.sides[l.to]
	if x.boot == 0 {
		return
	}
	switch l.n.Kind {
	case api.MsgAck, api.MsgHave, api.MsgRefuse, api.MsgStarted:
		if !w.on || w.from != l.to {
			return
		}
		s, _, err := hand.Hear(w.p, w.src, l.n, x.boot, x.knows)
		wantBare(w.t, "P23.1: Hear", err, nil)
		w.src = s
	default:
		s, answers, err := hand.Catch(w.p, worldPart, x.spare, l.n, x.boot, x.runs || w.on && w.from == l.to)
		wantBare(w.t, "P23.2: Catch", err, nil)
		x.spare = s
		w.send(l.to, answers)
	}
}

func (w *world) send(from int, notes []api.Note) {
	w.t.Helper()
	for _, n := range notes {
		wantBare(w.t, "a note is in form", chunk.Check(n), nil)
		w.under = append(w.under, letter{1 - from, n})
	}
}

// boundary: both learn the other's boot; the source, the spares, and whether it is lost; then a frame.
func (w *world) boundary(tries int) {
	w.t.Helper()
	for i := range w.sides {
		if w.sides[i].boot != 0 {
			w.sides[i].knows = w.sides[1-i].boot
		}
	}
	other := &w.sides[1-w.owner]
	holds := other.boot != 0 && other.spare.Held != 0
	if w.on {
		w.sourceBoundary(tries)
	}
	for i := range w.sides {
		if w.sides[i].boot != 0 {
			w.spareBoundary(i)
		}
	}
	if !w.lost && !w.isThere() {
		w.lost = true
		w.seen["lost"]++
		if holds {
			w.t.Error("P23.3: it is lost, and the other module held an image of it")
		}
	}
	for i := range w.sides {
		if x := &w.sides[i]; x.runs {
			x.state = onward(x.state)
			if x.state.Frame == len(w.alone) {
				w.alone = append(w.alone, onward(w.alone[x.state.Frame-1]))
			}
		}
	}
	if w.wait--; w.job != nil && w.wait < 0 {
		w.job, w.ready = nil, w.job
	}
}

func (w *world) isThere() bool {
	return w.sides[w.owner].runs || w.on && w.from == w.owner && w.src.Phase >= hand.Freezing
}

func (w *world) sourceBoundary(tries int) {
	w.t.Helper()
	x := &w.sides[w.from]
	a := hand.At{Own: x.boot, Peer: x.knows, Tries: tries, Image: w.ready}
	if x.runs {
		a.State = x.state
	}
	w.ready = nil
	was := w.src
	s, d, err := hand.Bound(w.p, w.src, a)
	wantBare(w.t, "P23.1: Bound", err, nil)
	w.src = s
	w.on = s.Phase != hand.Idle
	w.seen[fmt.Sprintf("event %d in %d", d.Event, was.Phase)]++
	switch d.Event {
	case api.EventBegun:
		w.taken[was.Xid] = d.State
		wantSame(w.t, "P23.4: begun", d.State, mark(w.t, w.p, a.State))
	case api.EventFrozen:
		w.froze[was.Xid] = a.State
		wantSame(w.t, "P23.4: frozen", d.State, a.State)
	case api.EventAborted, api.EventBack:
		if d.Run {
			wantSame(w.t, "P23.4: it goes on from where it was frozen", d.State, w.froze[was.Xid])
		}
	}
	w.done(w.from, d)
}

func (w *world) spareBoundary(m int) {
	w.t.Helper()
	x := &w.sides[m]
	was := x.spare
	s, d, err := hand.Turn(w.p, worldPart, x.spare, hand.At{Own: x.boot, Peer: x.knows, There: !w.lost && w.owner != m})
	wantBare(w.t, "P23.2: Turn", err, nil)
	x.spare = s
	full, delta := w.taken[was.Xid], w.froze[was.Xid]
	switch {
	case d.Event == api.EventStarted:
		wantSame(w.t, "P23.4: started", d.State, mark(w.t, w.p, delta))
	case d.Event == api.EventTaken && was.Held == api.ImageFull:
		wantSame(w.t, "P23.4: taken over", d.State, full)
	case d.Event == api.EventTaken:
		wantSame(w.t, "P23.4: taken over", d.State, mark(w.t, w.p, delta))
	}
	w.seen[fmt.Sprintf("event %d of %d", d.Event, was.Held)]++
	w.done(m, d)
}

// done: the deed is done.
func (w *world) done(m int, d hand.Deed) {
	w.t.Helper()
	x := &w.sides[m]
	if d.Cancel {
		w.job, w.ready = nil, nil
	}
	if d.Freeze {
		x.runs = false
	}
	if d.Run {
		x.runs, x.state, w.owner = true, d.State, m
	}
	switch d.Job {
	case api.ImageFull:
		w.job = encode(w.t, w.p, d.State)
	case api.ImageDelta:
		w.job = makeDelta(w.t, w.p, d.State, d.Base)
	}
	if d.Job != 0 {
		w.ready, w.wait = nil, one(w.r, 0, 0, 0, 1, 2)
	}
	w.send(m, d.Notes)
}

// look: one owner, and no mixture.
func (w *world) look() {
	w.t.Helper()
	if w.sides[0].runs && w.sides[1].runs {
		w.t.Fatal("P23.3: it runs on both")
	}
	if w.on {
		held := w.src.Phase >= hand.Freezing
		if held && w.sides[w.from].runs {
			w.t.Fatal("P23.3: it is frozen or given away at the source, and runs there")
		}
		if (w.src.Phase == hand.Freezing || w.src.Phase == hand.Closing) && w.sides[1-w.from].runs {
			w.t.Fatal("P23.3: it is frozen at the source, and runs at the spare")
		}
		if !held && !w.sides[w.from].runs {
			w.t.Fatal("P23.3: it runs nowhere, and isn't frozen")
		}
		if !hand.Good(w.p, w.src) {
			w.t.Fatal("P23.1: the Source isn't in form")
		}
	}
	for _, x := range w.sides {
		if x.runs && w.lost {
			w.t.Fatal("P23.3: it is lost and runs")
		}
		if x.runs && !valid.Alike(x.state, w.alone[x.state.Frame]) {
			w.t.Fatalf("P23.4: in frame %d it isn't what it would be: %+v", x.state.Frame, x.state)
		}
		if !hand.Fit(w.p, x.spare) {
			w.t.Fatal("P23.2: the Spare isn't in form")
		}
	}
}

// step: anything may befall; calm says how seldom a module goes down or a letter is lost.
func (w *world) step(tries, calm int) {
	w.t.Helper()
	k := w.r.Intn(20)
	switch {
	case k == 0 && seldom(w.r, calm):
		w.crash(w.r.Intn(2))
	case k == 1 || k == 2:
		w.up(w.r.Intn(2))
	case k == 3 && seldom(w.r, calm):
		w.abort()
	case k == 4 || k == 5:
		w.move()
	case k < 10:
		w.boundary(tries)
	case len(w.under) == 0:
	case k == 10 && seldom(w.r, calm):
		i := w.r.Intn(len(w.under))
		w.under = slices.Delete(w.under, i, i+1)
	case k == 11:
		w.under = append(w.under, one(w.r, w.under...))
	case k == 12 || k == 13:
		for range 2 * len(w.under) {
			if len(w.under) > 0 {
				w.deliver(w.r.Intn(len(w.under)))
			}
		}
	default:
		w.deliver(w.r.Intn(len(w.under)))
	}
}

// TestPlays: P23.3 and P23.4, of plays in which notes are lost, doubled and late, aborts are asked, and modules go down and come up.
func TestPlays(t *testing.T) {
	r := rand.New(rand.NewSource(234))
	seen := map[string]int{}
	for range 3000 {
		w := newWorld(t, r, seen)
		tries, calm := one(r, 1, 2, 5, 64), one(r, 1, 4, 20)
		for range 200 {
			w.step(tries, calm)
			w.look()
			if t.Failed() {
				t.FailNow()
			}
		}
	}
	wantEnough(t, seen, 50, "event 1 in 1", "event 2 in 2", "event 3 in 4", "event 5 in 5", "event 6 in 1", "event 6 in 2", "event 6 in 3", "event 6 in 4", "event 7 in 5")
	wantEnough(t, seen, 50, "event 4 of 2", "event 8 of 1", "event 8 of 2", "lost")
}

// TestCrashAtEachMoment: P23.3 and P23.4: a handover in which one module goes down at any one moment, and comes up again at any later one or never, while each other letter comes through.
func TestCrashAtEachMoment(t *testing.T) {
	r := rand.New(rand.NewSource(235))
	seen := map[string]int{}
	for down := range 40 {
		for _, again := range []int{0, 1, 2, 5, 1000} {
			for _, spare := range []bool{false, true} {
				w := newWorld(t, r, seen)
				w.move()
				m := w.owner
				if spare {
					m = 1 - m
				}
				for moment := range 60 {
					if moment == down {
						w.crash(m)
					}
					if moment == down+again {
						w.up(m)
					}
					if len(w.under) > 0 && !seldom(r, 6) {
						w.deliver(r.Intn(len(w.under)))
					} else {
						w.boundary(64)
					}
					w.look()
					if t.Failed() {
						t.FailNow()
					}
				}
				for range 10 {
					w.boundary(64)
					for len(w.under) > 0 {
						w.deliver(r.Intn(len(w.under)))
					}
					w.look()
				}
				if w.on || !w.lost && !w.sides[w.owner].runs {
					t.Fatalf("P23.3: down at %d, up %d later: in the end it runs nowhere, or is still under way: %v", down, again, w.on)
				}
			}
		}
	}
	wantEnough(t, seen, 10, "event 7 in 5", "event 8 of 1", "event 8 of 2", "event 4 of 2", "lost")
}

// TestArrives: P23.5: where all goes well it is over at the seventh boundary, whatever the order in which the notes come.
func TestArrives(t *testing.T) {
	r := rand.New(rand.NewSource(236))
	for range 400 {
		p, part := somePlan(r), r.Intn(8)
		x := someXid(r)
		src, err := hand.Begin(part, x)
		wantBare(t, "P23.1: Begin", err, nil)
		sp := olderSpare(t, r, p, x)
		tries := one(r, 1, 1, 2, 64)
		var events, spares []int
		var image []byte
		var base, frozen api.State
		for boundary := 1; boundary <= 7; boundary++ {
			a := hand.At{Own: x.Boot, Peer: x.Peer, Tries: tries, Image: image, There: true}
			switch boundary {
			case 1:
				a.State = someState(t, r, p)
			case 2, 3:
				a.State = writtenSince(t, r, p, base)
			}
			next, d, err := hand.Bound(p, src, a)
			wantBare(t, "P23.5: Bound", err, nil)
			src, image = next, nil
			switch d.Job {
			case api.ImageFull:
				image, base = encode(t, p, d.State), d.State
			case api.ImageDelta:
				image, frozen = makeDelta(t, p, d.State, d.Base), d.State
			}
			spare, e, err := hand.Turn(p, part, sp, hand.At{Own: x.Peer, Peer: x.Boot, There: true})
			wantBare(t, "P23.5: Turn", err, nil)
			sp = spare
			if e.Run {
				wantSame(t, "P23.5: it runs at the spare", e.State, mark(t, p, frozen))
			}
			events, spares = append(events, d.Event), append(spares, e.Event)
			src, sp = comeThrough(t, r, p, src, sp, x, part, d.Notes, e.Notes)
		}
		if !slices.Equal(events, []int{api.EventBegun, 0, api.EventFrozen, 0, api.EventReleased, 0, api.EventOver}) || !slices.Equal(spares, []int{0, 0, 0, 0, 0, api.EventStarted, 0}) {
			t.Fatalf("P23.5: the source's events are %v, the spare's %v", events, spares)
		}
		wantSame(t, "P23.5: the source behind it", src, hand.Source{})
		if sp.Held != 0 || sp.Begun != x.Num || t.Failed() {
			t.Fatalf("P23.5: the spare behind it: %+v", sp)
		}
	}
}

// olderSpare: one that has come up just now, or knows the peer, or holds something of an older migration.
func olderSpare(t *testing.T, r *rand.Rand, p api.Plan, x api.Xid) hand.Spare {
	t.Helper()
	s := one(r, hand.Spare{}, hand.Spare{Peer: x.Boot}, hand.Spare{Peer: x.Boot, Top: x.Num - 1, Closed: coin(r), Begun: r.Intn(x.Num)})
	if s.Peer != 0 && coin(r) {
		s.Held, s.Xid, s.State = api.ImageFull, api.Xid{Boot: x.Boot, Peer: x.Peer, Num: x.Num - 1}, someState(t, r, p)
	}
	return s
}

// comeThrough: all notes come, in any order, and what they are answered by.
func comeThrough(t *testing.T, r *rand.Rand, p api.Plan, src hand.Source, sp hand.Spare, x api.Xid, part int, there, back []api.Note) (hand.Source, hand.Spare) {
	t.Helper()
	for len(there)+len(back) > 0 {
		if i := r.Intn(len(there) + len(back)); i < len(there) {
			s, answers, err := hand.Catch(p, part, sp, there[i], x.Peer, false)
			wantBare(t, "P23.5: Catch", err, nil)
			sp, back, there = s, append(back, answers...), slices.Delete(slices.Clone(there), i, i+1)
		} else {
			i -= len(there)
			s, _, err := hand.Hear(p, src, back[i], x.Boot, x.Peer)
			wantBare(t, "P23.5: Hear", err, nil)
			src, back = s, slices.Delete(slices.Clone(back), i, i+1)
		}
	}
	return src, sp
}
