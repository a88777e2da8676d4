package hand_test

import (
	"slices"
	"testing"

	"ferry/api"
	"ferry/hand"
)

// walk is a source and a spare of the example, and the letters that come through at once.
type walk struct {
	t    *testing.T
	src  hand.Source
	sp   hand.Spare
	told []int // the kinds of all notes that came to the source, and counted
}

// walkTo: a walk up to a phase of the source, behind whose boundary nothing has come through yet.
func walkTo(t *testing.T, phase int) *walk {
	t.Helper()
	src, err := hand.Begin(2, exampleXid())
	wantBare(t, "P23.1: Begin", err, nil)
	w := &walk{t: t, src: src, sp: fresh()}
	w.bound(exampleState(1, 0), nil, hand.Packing, hand.Deed{Event: api.EventBegun, Job: api.ImageFull, Run: true, State: mark(t, examplePlan(), exampleState(1, 0))})
	w.turn(hand.Deed{})
	if phase == hand.Packing {
		return w
	}
	notes := w.bound(exampleState(2, 1), fullBytes(t), hand.Sending, hand.Deed{Notes: fullPieces(t)})
	w.turn(hand.Deed{})
	if phase == hand.Sending {
		return w
	}
	w.deliver(notes, api.MsgAck, api.MsgAck, api.MsgHave)
	w.bound(exampleState(3, 1), nil, hand.Freezing, hand.Deed{Event: api.EventFrozen, Job: api.ImageDelta, Base: lastSum(fullBytes(t)), Freeze: true, State: exampleState(3, 1)})
	w.turn(hand.Deed{Notes: []api.Note{haveNote(api.ImageFull, lastSum(fullBytes(t)))}})
	if phase == hand.Freezing {
		return w
	}
	notes = w.bound(api.State{}, deltaBytes(t), hand.Closing, hand.Deed{Notes: deltaPieces(t)})
	w.turn(hand.Deed{Notes: []api.Note{haveNote(api.ImageFull, lastSum(fullBytes(t)))}})
	if phase == hand.Closing {
		return w
	}
	w.deliver(notes, api.MsgAck, api.MsgAck, api.MsgHave)
	w.bound(api.State{}, nil, hand.Released, hand.Deed{Event: api.EventReleased, Notes: []api.Note{commitNote()}})
	w.turn(hand.Deed{Notes: []api.Note{haveNote(api.ImageDelta, lastSum(deltaBytes(t)))}})
	return w
}

// bound: a boundary at the source, which comes to that phase by that deed.
func (w *walk) bound(state api.State, image []byte, phase int, deed hand.Deed) []api.Note {
	w.t.Helper()
	s, d, err := bound(w.t, examplePlan(), w.src, at(state, image))
	wantBare(w.t, "P23.1: Bound", err, nil)
	wantSame(w.t, "P23.1: Bound", d, deed)
	if s.Phase != phase {
		w.t.Fatalf("P23.1: the source came to phase %d, want %d", s.Phase, phase)
	}
	w.src = s
	return d.Notes
}

// turn: a boundary at the spare. What it sends is lost, but where the walk delivers it.
func (w *walk) turn(deed hand.Deed) []api.Note {
	w.t.Helper()
	s, d, err := turn(w.t, examplePlan(), 2, w.sp, hand.At{Own: 1, Peer: 1, There: true})
	wantBare(w.t, "P23.2: Turn", err, nil)
	wantSame(w.t, "P23.2: Turn", d, deed)
	w.sp = s
	return d.Notes
}

// deliver: notes come to the spare, and its answers, which are of these kinds, to the source.
func (w *walk) deliver(notes []api.Note, kinds ...int) {
	w.t.Helper()
	var got []int
	for _, n := range notes {
		s, l, err := catch(w.t, examplePlan(), 2, w.sp, n, 1, false)
		wantBare(w.t, "P23.2: Catch", err, nil)
		w.sp = s
		for _, a := range l {
			got = append(got, a.Kind)
			w.hear(a)
		}
	}
	if !slices.Equal(got, kinds) {
		w.t.Errorf("P23.2: the answers are of the kinds %v, want %v", got, kinds)
	}
}

func (w *walk) hear(n api.Note) {
	w.t.Helper()
	s, counts, err := hear(w.t, examplePlan(), w.src, n, 1, 1)
	wantBare(w.t, "P23.1: Hear", err, nil)
	w.src = s
	if counts {
		w.told = append(w.told, n.Kind)
	}
}

// TestExampleHandover: the examples 1 and 2.
func TestExampleHandover(t *testing.T) {
	w := walkTo(t, hand.Released)
	w.deliver([]api.Note{commitNote()})
	wantSame(t, "P23.2: the commit", w.sp, heardCommit(t))
	w.bound(api.State{}, nil, hand.Released, hand.Deed{Notes: []api.Note{commitNote()}})
	started := w.turn(hand.Deed{Event: api.EventStarted, Run: true, State: mark(t, examplePlan(), exampleState(3, 1)), Notes: []api.Note{startedNote()}})
	wantSame(t, "P23.2: behind the start", w.sp, hasStarted())
	w.hear(started[0])
	if last := w.told[len(w.told)-1]; last != api.MsgStarted {
		t.Errorf("P23.1: the last note that counted is of the kind %d", last)
	}
	// The second commit comes late, and pieces and a cancel later still.
	w.deliver([]api.Note{commitNote()}, api.MsgStarted)
	w.deliver(append(append(fullPieces(t), deltaPieces(t)...), cancelNote()))
	wantSame(t, "P23.2: late notes", w.sp, hasStarted())
	w.bound(api.State{}, nil, hand.Idle, hand.Deed{Event: api.EventOver})
	wantSame(t, "P23.1: the source behind it", w.src, hand.Source{})
}

// TestExampleAborts: the examples 3, 6 and 8.
func TestExampleAborts(t *testing.T) {
	w := walkTo(t, hand.Closing)
	var err error
	w.src, err = ask(t, examplePlan(), w.src)
	wantBare(t, "P23.1: Ask in Closing", err, nil)
	notes := w.bound(api.State{}, nil, hand.Idle, hand.Deed{Event: api.EventAborted, Notes: []api.Note{cancelNote()}, Run: true, State: exampleState(3, 1)})
	w.deliver(notes)
	wantSame(t, "P23.2: behind the cancel", w.sp, hand.Spare{Peer: 1, Top: 2, Closed: true})
	_, err = ask(t, examplePlan(), walkTo(t, hand.Released).src)
	wantBare(t, "P23.1: Ask in Released", err, api.ErrBusy)

	w = walkTo(t, hand.Sending)
	for range 2 {
		w.bound(exampleState(3, 1), nil, hand.Sending, hand.Deed{Notes: fullPieces(t)})
	}
	w.bound(exampleState(3, 1), nil, hand.Idle, hand.Deed{Event: api.EventAborted, Notes: []api.Note{cancelNote()}})

	w = walkTo(t, hand.Sending)
	w.deliver(cut(t, 2, exampleXid(), api.ImageFull, make([]byte, 200)), api.MsgAck, api.MsgAck, api.MsgRefuse)
	wantSame(t, "P23.2: behind the refusal", w.sp, hand.Spare{Peer: 1, Top: 2, Closed: true})
	w.bound(exampleState(3, 1), nil, hand.Idle, hand.Deed{Event: api.EventAborted, Notes: []api.Note{cancelNote()}})
}

// TestExampleCrashes: the example 4.
func TestExampleCrashes(t *testing.T) {
	down := edited(at(exampleState(3, 1), nil), func(a *hand.At) { a.Peer = 2 })
	w := walkTo(t, hand.Sending)
	wantBound(t, "P23.1: the peer's boot is another one", w.src, down, hand.Source{}, hand.Deed{Event: api.EventAborted, Notes: []api.Note{cancelNote()}})
	next, l, err := catch(t, examplePlan(), 2, fresh(), cancelNote(), 2, false)
	wantBare(t, "P23.2: the cancel at another boot", err, nil)
	wantSame(t, "P23.2: the cancel at another boot", next, fresh())
	wantSame(t, "P23.2: the cancel at another boot", l, []api.Note(nil))
	w = walkTo(t, hand.Released)
	for range 2 {
		wantBound(t, "P23.1: back", w.src, down, hand.Source{}, hand.Deed{Event: api.EventBack, Run: true, State: exampleState(3, 1)})
		w.hear(startedNote())
	}
}
