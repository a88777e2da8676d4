package hand_test

import (
	"fmt"
	"testing"

	"ferry/api"
	"ferry/hand"
	"ferry/xfer"
)

// fullBytes, deltaBytes: the images of the example's migration: of the mark of a state, and of a later one over it.
func fullBytes(t *testing.T) []byte {
	t.Helper()
	return encode(t, examplePlan(), mark(t, examplePlan(), exampleState(1, 0)))
}

func deltaBytes(t *testing.T) []byte {
	t.Helper()
	return makeDelta(t, examplePlan(), exampleState(3, 1), lastSum(fullBytes(t)))
}

func fullPieces(t *testing.T) []api.Note {
	t.Helper()
	return cut(t, 2, exampleXid(), api.ImageFull, fullBytes(t))
}

func deltaPieces(t *testing.T) []api.Note {
	t.Helper()
	return cut(t, 2, exampleXid(), api.ImageDelta, deltaBytes(t))
}

// fresh: a Spare that knows the peer and nothing else.
func fresh() hand.Spare { return hand.Spare{Peer: 1} }

// holdsFull, holdsDelta, heardCommit, hasStarted: the Spare as far as the example's migration has come.
func holdsFull(t *testing.T) hand.Spare {
	t.Helper()
	return hand.Spare{Peer: 1, Top: 2, Held: api.ImageFull, Xid: exampleXid(), Full: lastSum(fullBytes(t)), State: mark(t, examplePlan(), exampleState(1, 0))}
}

func holdsDelta(t *testing.T) hand.Spare {
	t.Helper()
	s := holdsFull(t)
	s.Held, s.Delta, s.State = api.ImageDelta, lastSum(deltaBytes(t)), mark(t, examplePlan(), exampleState(3, 1))
	return s
}

func heardCommit(t *testing.T) hand.Spare {
	t.Helper()
	s := holdsDelta(t)
	s.Commit = true
	return s
}

func hasStarted() hand.Spare { return hand.Spare{Peer: 1, Top: 2, Closed: true, Begun: 2} }

// coming: the Spare on which that piece alone has come.
func coming(t *testing.T, s hand.Spare, n api.Note) hand.Spare {
	t.Helper()
	r, _, err := xfer.Take(xfer.Recv{}, n)
	wantBare(t, "xfer.Take", err, nil)
	s.Top, s.Recv = n.Xid.Num, r
	return s
}

// allSpares: one of each sort.
func allSpares(t *testing.T) []hand.Spare {
	t.Helper()
	return []hand.Spare{
		{}, fresh(), holdsFull(t), holdsDelta(t), heardCommit(t), hasStarted(), {Peer: 1, Closed: true}, {Peer: 1, Top: 2, Closed: true},
		coming(t, fresh(), fullPieces(t)[1]), coming(t, holdsFull(t), deltaPieces(t)[0]),
		edited(holdsFull(t), func(s *hand.Spare) { s.Closed = true }), edited(holdsDelta(t), func(s *hand.Spare) { s.Peer, s.Top = 2, 0 }), edited(holdsFull(t), func(s *hand.Spare) { s.Peer, s.Top = 0, 0 }),
	}
}

func commitNote() api.Note { return api.Note{Kind: api.MsgCommit, Part: 2, Xid: exampleXid()} }

func cancelNote() api.Note { return api.Note{Kind: api.MsgCancel, Part: 2, Xid: exampleXid()} }

func startedNote() api.Note { return api.Note{Kind: api.MsgStarted, Part: 2, Xid: exampleXid()} }

func haveNote(stage int, sum uint32) api.Note {
	return api.Note{Kind: api.MsgHave, Part: 2, Xid: exampleXid(), Stage: stage, Sum: sum}
}

func ackOf(n api.Note) api.Note {
	return api.Note{Kind: api.MsgAck, Part: n.Part, Xid: n.Xid, Stage: n.Stage, Index: n.Index, Total: n.Total}
}

// wantCaught looks at what Catch answers without an error.
func wantCaught(t *testing.T, what string, s hand.Spare, n api.Note, wanted hand.Spare, answers ...api.Note) hand.Spare {
	t.Helper()
	next, l, err := catch(t, examplePlan(), 2, s, n, 1, false)
	wantBare(t, what, err, nil)
	wantSame(t, what, next, wanted)
	wantSame(t, what, l, answers)
	if !hand.Fit(examplePlan(), next) {
		t.Errorf("%s: what comes of it isn't in form", what)
	}
	return next
}

// wantSpent looks whether the note changes nothing and is answered by nothing.
func wantSpent(t *testing.T, what string, s hand.Spare, n api.Note) {
	t.Helper()
	wantCaught(t, what, s, n, s)
}

// wantFit holds Fit, and the calls that ask it first, against the second reading.
func wantFit(t *testing.T, p api.Plan, s hand.Spare) {
	t.Helper()
	is := isSpare(p, s)
	if hand.Fit(p, s) != is {
		t.Errorf("P23.2: Fit is %v of %+v", !is, s)
	}
	if is {
		return
	}
	next, l, err := catch(t, p, -1, s, api.Note{}, 0, true)
	wantBare(t, "P23.2: Catch", err, api.ErrState)
	wantSame(t, "P23.2: Catch", next, hand.Spare{})
	wantSame(t, "P23.2: Catch", l, []api.Note(nil))
	next, d, err := turn(t, p, -1, s, hand.At{})
	wantBare(t, "P23.2: Turn", err, api.ErrState)
	wantSame(t, "P23.2: Turn", next, hand.Spare{})
	wantSame(t, "P23.2: Turn", d, hand.Deed{})
}

// TestSpareForm: each field of Spares of each sort, in form and beside it.
func TestSpareForm(t *testing.T) {
	p := examplePlan()
	for _, s := range allSpares(t) {
		if !hand.Fit(p, s) {
			t.Errorf("P23.2: Fit is false of %+v", s)
		}
		for _, o := range allSpares(t) {
			for _, edit := range []func(s *hand.Spare){
				func(s *hand.Spare) { s.Peer = o.Peer }, func(s *hand.Spare) { s.Top = o.Top }, func(s *hand.Spare) { s.Recv = o.Recv }, func(s *hand.Spare) { s.Held = o.Held }, func(s *hand.Spare) { s.Xid = o.Xid },
				func(s *hand.Spare) { s.State = o.State }, func(s *hand.Spare) { s.Full, s.Delta = o.Full, o.Delta }, func(s *hand.Spare) { s.Held, s.Xid, s.Full, s.Delta, s.State = o.Held, o.Xid, o.Full, o.Delta, o.State },
			} {
				wantFit(t, p, edited(s, edit))
			}
		}
		for _, edit := range []func(s *hand.Spare){
			func(s *hand.Spare) { s.Closed = !s.Closed }, func(s *hand.Spare) { s.Commit = !s.Commit }, func(s *hand.Spare) { s.Full = 9 }, func(s *hand.Spare) { s.Delta = 9 }, func(s *hand.Spare) { s.Full, s.Delta = 0, 0 },
			func(s *hand.Spare) { s.Recv.On = !s.Recv.On }, func(s *hand.Spare) { s.Recv.Stage.Total++ }, func(s *hand.Spare) { s.Recv.Stage.Pieces = []string{} }, func(s *hand.Spare) { s.Recv.Stage.Part = 3 },
			func(s *hand.Spare) { s.State.Up = []bool{} }, func(s *hand.Spare) { s.State.Id++ }, func(s *hand.Spare) { s.State.Frame = 5 }, func(s *hand.Spare) { s.State.Frame = -5 },
		} {
			wantFit(t, p, edited(s, edit))
			wantFit(t, p, edited(edited(s, edit), func(s *hand.Spare) { s.Commit = true }))
		}
		for _, v := range edges() {
			for _, edit := range []func(s *hand.Spare){
				func(s *hand.Spare) { s.Peer = v }, func(s *hand.Spare) { s.Top = v }, func(s *hand.Spare) { s.Begun = v }, func(s *hand.Spare) { s.Top, s.Begun = v, v }, func(s *hand.Spare) { s.Held = v },
				func(s *hand.Spare) { s.Xid.Boot = v }, func(s *hand.Spare) { s.Xid.Peer = v }, func(s *hand.Spare) { s.Xid.Num = v },
				func(s *hand.Spare) { s.Xid.Num, s.Top = v, v }, func(s *hand.Spare) { s.Xid.Boot, s.Peer = v, v },
				func(s *hand.Spare) { s.Recv.Stage.Xid.Boot = v }, func(s *hand.Spare) { s.Recv.Stage.Xid.Peer = v }, func(s *hand.Spare) { s.Recv.Stage.Xid.Num = v },
			} {
				wantFit(t, p, edited(s, edit))
			}
		}
	}
}

// TestSparePlan: a plan that isn't in form comes ahead of all else; a state is asked by its own plan.
func TestSparePlan(t *testing.T) {
	for _, s := range append(allSpares(t), hand.Spare{Peer: -1}) {
		if hand.Fit(badPlan(), s) {
			t.Errorf("P23.2: Fit of a plan that isn't one")
		}
		_, _, err := catch(t, badPlan(), -1, s, api.Note{}, 0, true)
		wantBare(t, "P23.2: Catch", err, api.ErrPlan)
		_, _, err = turn(t, badPlan(), -1, s, hand.At{})
		wantBare(t, "P23.2: Turn", err, api.ErrPlan)
		other := examplePlan()
		other.Id = 4
		wantFit(t, other, s)
	}
}

// TestCatchArguments: the partition and the own boot at their edges, ahead of the note.
func TestCatchArguments(t *testing.T) {
	for _, s := range allSpares(t) {
		for _, n := range []api.Note{{}, commitNote(), fullPieces(t)[0]} {
			for _, v := range edges() {
				if v < 0 || v > 7 {
					next, l, err := catch(t, examplePlan(), v, s, n, 1, false)
					wantBare(t, fmt.Sprintf("P23.2: Catch of partition %d", v), err, api.ErrArg)
					wantSame(t, "P23.2: Catch", next, hand.Spare{})
					wantSame(t, "P23.2: Catch", l, []api.Note(nil))
				}
				if !isNumber(v) {
					_, _, err := catch(t, examplePlan(), 2, s, n, v, true)
					wantBare(t, fmt.Sprintf("P23.2: Catch with the boot %d", v), err, api.ErrArg)
				}
			}
		}
		for _, mine := range []bool{false, true} {
			_, _, err := catch(t, examplePlan(), 0, s, api.Note{Kind: 8}, 1, mine)
			wantBare(t, "P23.2: Catch of no kind", err, api.ErrKind)
			next, l, err := catch(t, examplePlan(), 7, s, api.Note{Kind: api.MsgCommit, Part: 8, Xid: exampleXid()}, 2147483647, mine)
			wantBare(t, "P23.2: Catch of a note out of form", err, api.ErrRange)
			wantSame(t, "P23.2: Catch", next, hand.Spare{})
			wantSame(t, "P23.2: Catch", l, []api.Note(nil))
		}
	}
}

// TestSpent: notes of another partition, other boots, or a kind that isn't the spare's.
func TestSpent(t *testing.T) {
	notes := append(fullPieces(t), commitNote(), cancelNote())
	notes = append(notes, deltaPieces(t)...)
	for _, s := range allSpares(t) {
		for _, n := range notes {
			for _, edit := range []func(n *api.Note){
				func(n *api.Note) { n.Part = 1 }, func(n *api.Note) { n.Xid.Peer = 2 }, func(n *api.Note) { n.Xid.Boot = 3 }, func(n *api.Note) { n.Xid = api.Xid{Boot: 3, Peer: 1, Num: 4} }, func(n *api.Note) { n.Xid = api.Xid{Boot: 1, Peer: 2, Num: 4} },
			} {
				wantSpent(t, "P23.2: a note of another", s, edited(n, edit))
			}
			if s.Peer == 0 {
				wantSpent(t, "P23.2: no peer", s, n)
			}
		}
		for _, kind := range []int{api.MsgHave, api.MsgRefuse, api.MsgAck, api.MsgStarted} {
			n := startedNote()
			if n.Kind = kind; kind != api.MsgStarted {
				n.Stage = api.ImageFull
			}
			if kind == api.MsgAck {
				n.Total = 1
			}
			wantSpent(t, "P23.2: a kind that isn't the spare's", s, n)
			wantSpent(t, "P23.2: a kind that isn't the spare's", s, edited(n, func(n *api.Note) { n.Xid.Num = 9 }))
		}
	}
}

// TestCommit: heard, heard again, and where it doesn't count.
func TestCommit(t *testing.T) {
	wantCaught(t, "P23.2: Commit", holdsDelta(t), commitNote(), heardCommit(t))
	wantCaught(t, "P23.2: Commit again", heardCommit(t), commitNote(), heardCommit(t))
	wantCaught(t, "P23.2: Commit of what started", hasStarted(), commitNote(), hasStarted(), startedNote())
	later := coming(t, hasStarted(), edited(fullPieces(t)[0], func(n *api.Note) { n.Xid.Num = 4 }))
	later.Closed = false
	wantCaught(t, "P23.2: Commit of what started, and a newer one", later, commitNote(), later, startedNote())
	for _, s := range []hand.Spare{
		fresh(), holdsFull(t), coming(t, fresh(), fullPieces(t)[0]), {Peer: 1, Top: 2, Closed: true},
		edited(holdsDelta(t), func(s *hand.Spare) { s.Closed = true }), edited(holdsDelta(t), func(s *hand.Spare) { s.Top = 3 }), edited(holdsDelta(t), func(s *hand.Spare) { s.Xid.Num = 1 }),
		edited(holdsDelta(t), func(s *hand.Spare) { s.Top = 1 }), edited(holdsDelta(t), func(s *hand.Spare) { s.Xid.Peer = 2 }), edited(holdsDelta(t), func(s *hand.Spare) { s.Xid.Boot = 2 }),
		edited(hasStarted(), func(s *hand.Spare) { s.Begun = 1 }),
	} {
		wantSpent(t, "P23.2: a Commit that doesn't count", s, commitNote())
	}
	for _, num := range []int{1, 3, 4} {
		wantSpent(t, "P23.2: a Commit of another", holdsDelta(t), edited(commitNote(), func(n *api.Note) { n.Xid.Num = num }))
		wantSpent(t, "P23.2: a Commit of another", heardCommit(t), edited(commitNote(), func(n *api.Note) { n.Xid.Num = num }))
		wantSpent(t, "P23.2: a Commit of another", hasStarted(), edited(commitNote(), func(n *api.Note) { n.Xid.Num = num }))
	}
	// Whose the partition is doesn't count for it.
	next, l, err := catch(t, examplePlan(), 2, hasStarted(), commitNote(), 1, true)
	wantBare(t, "P23.2: Commit of what is mine", err, nil)
	wantSame(t, "P23.2: Commit of what is mine", next, hasStarted())
	wantSame(t, "P23.2: Commit of what is mine", l, []api.Note{startedNote()})
}

// TestCancel: of the newest, of a newer one, of an older one, of one that is closed.
func TestCancel(t *testing.T) {
	closed := hand.Spare{Peer: 1, Top: 2, Closed: true}
	for _, s := range []hand.Spare{fresh(), holdsFull(t), holdsDelta(t), heardCommit(t), coming(t, fresh(), fullPieces(t)[1]), coming(t, holdsFull(t), deltaPieces(t)[0])} {
		wantCaught(t, "P23.2: Cancel", s, cancelNote(), closed)
	}
	wantSpent(t, "P23.2: Cancel of what is closed", closed, cancelNote())
	wantSpent(t, "P23.2: Cancel of what started", hasStarted(), cancelNote())
	wantSpent(t, "P23.2: Cancel of what is closed and held", edited(holdsFull(t), func(s *hand.Spare) { s.Closed = true }), cancelNote())
	newer := edited(cancelNote(), func(n *api.Note) { n.Xid.Num = 4 })
	wantCaught(t, "P23.2: Cancel of a newer one", hasStarted(), newer, edited(hasStarted(), func(s *hand.Spare) { s.Top = 4 }))
	wantCaught(t, "P23.2: Cancel of a newer one", heardCommit(t), newer, edited(holdsDelta(t), func(s *hand.Spare) { s.Top, s.Closed = 4, true }))
	wantCaught(t, "P23.2: Cancel of a newer one", coming(t, fresh(), fullPieces(t)[1]), newer, hand.Spare{Peer: 1, Top: 4, Closed: true})
	held := edited(holdsFull(t), func(s *hand.Spare) { s.Xid.Peer = 2 })
	wantCaught(t, "P23.2: Cancel of another than what is held", held, cancelNote(), edited(held, func(s *hand.Spare) { s.Closed = true }))
	ahead := edited(holdsFull(t), func(s *hand.Spare) { s.Top = 1 })
	wantCaught(t, "P23.2: Cancel of what is held, newer than Top", ahead, cancelNote(), closed)
	wantSpent(t, "P23.2: Cancel of an older one", holdsFull(t), edited(cancelNote(), func(n *api.Note) { n.Xid.Num = 1 }))
	held = edited(holdsFull(t), func(s *hand.Spare) { s.Top = 3 })
	wantSpent(t, "P23.2: Cancel of an older one that is held", held, cancelNote())
	next, _, err := catch(t, examplePlan(), 2, holdsFull(t), cancelNote(), 1, true)
	wantBare(t, "P23.2: Cancel of what is mine", err, nil)
	wantSame(t, "P23.2: Cancel of what is mine", next, closed)
}

// TestFullComes: the pieces of a full image in each order, what is there already, and what isn't an image.
func TestFullComes(t *testing.T) {
	l := fullPieces(t)
	have := haveNote(api.ImageFull, lastSum(fullBytes(t)))
	for _, first := range []int{0, 1} {
		n, m := l[first], l[1-first]
		for _, s := range []hand.Spare{fresh(), {Peer: 1, Top: 1, Closed: true}, {Peer: 1, Top: 1, Begun: 1}, {Peer: 1, Top: 1, Begun: 1, Closed: true}, {Peer: 1, Top: 2}} {
			s = wantCaught(t, "P23.2: the first piece", s, n, edited(coming(t, s, n), func(s *hand.Spare) { s.Closed = false }), ackOf(n))
			s = wantCaught(t, "P23.2: the first piece again", s, n, s, ackOf(n))
			wantSpent(t, "P23.2: other bytes", s, edited(n, func(n *api.Note) { n.Data = someText(len(n.Data)) }))
			held := edited(holdsFull(t), func(h *hand.Spare) { h.Begun = s.Begun })
			s = wantCaught(t, "P23.2: the last piece", s, m, held, ackOf(m), have)
			wantCaught(t, "P23.2: a piece of what is held", s, n, s, ackOf(n), have)
		}
	}
	// What is held stays till the newer one is whole; a commit of the older one is gone.
	newer := cut(t, 2, api.Xid{Boot: 1, Peer: 1, Num: 4}, api.ImageFull, fullBytes(t))
	s := wantCaught(t, "P23.2: a newer one", heardCommit(t), newer[0], coming(t, holdsDelta(t), newer[0]), ackOf(newer[0]))
	wantSpent(t, "P23.2: a piece of an older one", s, l[0])
	haveNewer := edited(have, func(n *api.Note) { n.Xid.Num = 4 })
	wantCaught(t, "P23.2: a newer one is whole", s, newer[1], edited(holdsFull(t), func(s *hand.Spare) { s.Top, s.Xid.Num = 4, 4 }), ackOf(newer[1]), haveNewer)
	// A piece that is new and not of the one that is held raises Top alone.
	wantCaught(t, "P23.2: a newer delta's piece", holdsDelta(t), edited(deltaPieces(t)[0], func(n *api.Note) { n.Xid.Num = 4 }), edited(holdsDelta(t), func(s *hand.Spare) { s.Top = 4 }))
	wantCaught(t, "P23.2: a newer delta's piece", heardCommit(t), edited(deltaPieces(t)[0], func(n *api.Note) { n.Xid.Num = 4 }), edited(holdsDelta(t), func(s *hand.Spare) { s.Top = 4 }))
	for _, s := range []hand.Spare{{Peer: 1, Top: 2, Closed: true}, hasStarted(), {Peer: 1, Top: 3}, {Peer: 1, Top: 3, Closed: true}} {
		wantSpent(t, "P23.2: a piece of what is over", s, l[0])
	}
}

// TestOneMigrationAtATime: the example 7.
func TestOneMigrationAtATime(t *testing.T) {
	l := fullPieces(t)
	s := coming(t, fresh(), l[0])
	n := edited(l[1], func(n *api.Note) { n.Xid.Num = 4 })
	wantCaught(t, "P23.2: a chunk of a newer one", s, n, coming(t, fresh(), n), ackOf(n))
	for _, x := range []api.Xid{{Boot: 1, Peer: 2, Num: 4}, {Boot: 2, Peer: 1, Num: 4}} {
		wantSpent(t, "P23.2: a chunk of other boots", s, edited(l[1], func(n *api.Note) { n.Xid = x }))
	}
	for _, s := range allSpares(t) {
		for _, n := range []api.Note{l[0], n, deltaPieces(t)[1]} {
			next, notes, err := catch(t, examplePlan(), 2, s, n, 1, true)
			wantBare(t, "P23.2: a chunk of what is mine", err, nil)
			wantSame(t, "P23.2: a chunk of what is mine", next, s)
			wantSame(t, "P23.2: a chunk of what is mine", notes, []api.Note(nil))
		}
	}
}

// TestDeltaComes: the pieces of a delta, over what is held.
func TestDeltaComes(t *testing.T) {
	l := deltaPieces(t)
	have := haveNote(api.ImageDelta, lastSum(deltaBytes(t)))
	for _, first := range []int{0, 1} {
		n, m := l[first], l[1-first]
		s := wantCaught(t, "P23.2: the first piece", holdsFull(t), n, coming(t, holdsFull(t), n), ackOf(n))
		full := fullPieces(t)[0]
		s = wantCaught(t, "P23.2: a piece of the full image between", s, full, s, ackOf(full), haveNote(api.ImageFull, lastSum(fullBytes(t))))
		s = wantCaught(t, "P23.2: the last piece", s, m, holdsDelta(t), ackOf(m), have)
		wantCaught(t, "P23.2: a piece of what is held", s, n, s, ackOf(n), have)
		wantCaught(t, "P23.2: a piece of the full image behind", s, full, s, ackOf(full), haveNote(api.ImageFull, lastSum(fullBytes(t))))
		wantCaught(t, "P23.2: a piece behind the commit", heardCommit(t), n, heardCommit(t), ackOf(n), have)
	}
	for _, s := range []hand.Spare{{Peer: 1, Top: 2}, coming(t, fresh(), fullPieces(t)[0]), edited(holdsFull(t), func(s *hand.Spare) { s.Xid.Num = 1 }), edited(holdsDelta(t), func(s *hand.Spare) { s.Xid.Peer = 3 }), edited(holdsFull(t), func(s *hand.Spare) { s.Xid.Boot = 3 })} {
		wantSpent(t, "P23.2: a delta over nothing", s, l[0])
	}
	wantCaught(t, "P23.2: a delta over nothing, newer", fresh(), l[0], hand.Spare{Peer: 1, Top: 2})
	// What is held may be ahead of Top.
	ahead := edited(holdsFull(t), func(s *hand.Spare) { s.Top = 1 })
	wantCaught(t, "P23.2: a delta over what is held, newer than Top", ahead, l[0], coming(t, holdsFull(t), l[0]), ackOf(l[0]))
}

// TestRefused: what is whole and isn't an image, or none of this plan, or no delta over what is held.
func TestRefused(t *testing.T) {
	p := examplePlan()
	other := examplePlan()
	other.Id = 4
	others := encode(t, other, edited(mark(t, p, exampleState(1, 0)), func(s *api.State) { s.Id = 4 }))
	for _, c := range []struct {
		stage int
		bytes []byte
	}{
		{api.ImageFull, []byte("x")}, {api.ImageFull, []byte("no image")}, {api.ImageFull, deltaBytes(t)}, {api.ImageFull, others}, {api.ImageFull, fullBytes(t)[:130]}, {api.ImageFull, make([]byte, 4096)},
		{api.ImageDelta, []byte("x")}, {api.ImageDelta, fullBytes(t)}, {api.ImageDelta, makeDelta(t, p, exampleState(3, 1), 7)}, {api.ImageDelta, makeDelta(t, p, exampleState(3, 0), lastSum(fullBytes(t)))},
		{api.ImageDelta, makeDelta(t, p, exampleState(3, 2), lastSum(fullBytes(t)))}, {api.ImageDelta, make([]byte, 4096)},
	} {
		s, closed := fresh(), hand.Spare{Peer: 1, Top: 2, Closed: true}
		if c.stage == api.ImageDelta {
			s, closed = holdsFull(t), edited(holdsFull(t), func(s *hand.Spare) { s.Closed = true })
		}
		l := cut(t, 2, exampleXid(), c.stage, c.bytes)
		for i, n := range l {
			if i < len(l)-1 {
				next, answers, err := catch(t, p, 2, s, n, 1, false)
				wantBare(t, "P23.2: a piece", err, nil)
				wantSame(t, "P23.2: a piece", answers, []api.Note{ackOf(n)})
				s = next
				continue
			}
			refuse := api.Note{Kind: api.MsgRefuse, Part: 2, Xid: exampleXid(), Stage: c.stage}
			s = wantCaught(t, "P23.2: what isn't an image", s, n, closed, ackOf(n), refuse)
			wantSpent(t, "P23.2: a piece behind the refusal", s, n)
		}
	}
	// What is held of an older one stays.
	n := api.Note{Kind: api.MsgChunk, Part: 2, Xid: api.Xid{Boot: 1, Peer: 1, Num: 4}, Stage: api.ImageFull, Total: 1, Data: "x"}
	wantCaught(t, "P23.2: a newer one is refused", heardCommit(t), n, edited(holdsDelta(t), func(s *hand.Spare) { s.Top, s.Closed = 4, true }), ackOf(n), api.Note{Kind: api.MsgRefuse, Part: 2, Xid: n.Xid, Stage: api.ImageFull})
}

// wantTurned looks at what Turn answers without an error.
func wantTurned(t *testing.T, what string, s hand.Spare, a hand.At, wanted hand.Spare, deed hand.Deed) hand.Spare {
	t.Helper()
	next, d, err := turn(t, examplePlan(), 2, s, a)
	wantBare(t, what, err, nil)
	wantSame(t, what, next, wanted)
	wantSame(t, what, d, deed)
	if !hand.Fit(examplePlan(), next) {
		t.Errorf("%s: what comes of it isn't in form", what)
	}
	return next
}

// TestTurnArguments: the partition and the boots at their edges; nothing else of At is asked.
func TestTurnArguments(t *testing.T) {
	for _, s := range allSpares(t) {
		for _, v := range edges() {
			if v < 0 || v > 7 {
				next, d, err := turn(t, examplePlan(), v, s, hand.At{Own: 1, Peer: 1})
				wantBare(t, fmt.Sprintf("P23.2: Turn of partition %d", v), err, api.ErrArg)
				wantSame(t, "P23.2: Turn", next, hand.Spare{})
				wantSame(t, "P23.2: Turn", d, hand.Deed{})
			}
			if !isNumber(v) {
				_, _, err := turn(t, examplePlan(), 2, s, hand.At{Own: v, Peer: 1})
				wantBare(t, fmt.Sprintf("P23.2: Turn with the boot %d", v), err, api.ErrArg)
			}
			if !isNumber(v) && v != 0 {
				_, _, err := turn(t, examplePlan(), 2, s, hand.At{Own: 1, Peer: v})
				wantBare(t, fmt.Sprintf("P23.2: Turn with the peer %d", v), err, api.ErrArg)
			}
			_, _, err := turn(t, examplePlan(), 2, s, hand.At{Own: 1, Peer: 1, Tries: v, State: api.State{Id: v}, Image: []byte("x")})
			wantBare(t, "P23.2: Turn", err, nil)
		}
		for _, part := range []int{0, 7} {
			_, _, err := turn(t, examplePlan(), part, s, hand.At{Own: 2147483647, Peer: 2147483647})
			wantBare(t, "P23.2: Turn", err, nil)
		}
	}
}

// TestStart: a commit was heard: it starts, whatever has become of the peer.
func TestStart(t *testing.T) {
	s := heardCommit(t)
	deed := hand.Deed{Event: api.EventStarted, Run: true, State: s.State, Notes: []api.Note{startedNote()}}
	for _, there := range []bool{false, true} {
		for _, own := range []int{1, 2} {
			wantTurned(t, "P23.2: started", s, hand.At{Own: own, Peer: 1, There: there}, hasStarted(), deed)
			for _, peer := range []int{0, 2, 2147483647} {
				wantTurned(t, "P23.2: started, and the peer is another one", s, hand.At{Own: own, Peer: peer, There: there}, hand.Spare{Peer: peer}, deed)
			}
		}
	}
	// Pieces may be coming of a migration to another boot of this side.
	of := edited(heardCommit(t), func(s *hand.Spare) { s.Xid.Peer = 9 })
	of.Recv = coming(t, of, fullPieces(t)[0]).Recv
	wantTurned(t, "P23.2: started, with pieces", of, hand.At{Own: 1, Peer: 1}, hasStarted(), hand.Deed{Event: api.EventStarted, Run: true, State: of.State, Notes: []api.Note{{Kind: api.MsgStarted, Part: 2, Xid: of.Xid}}})
}

// TestTakeOver: the example 5: something is held, and the peer is another one.
func TestTakeOver(t *testing.T) {
	for _, s := range []hand.Spare{holdsFull(t), holdsDelta(t), coming(t, holdsFull(t), deltaPieces(t)[0]), edited(holdsFull(t), func(s *hand.Spare) { s.Closed = true }), edited(holdsFull(t), func(s *hand.Spare) { s.Top, s.Begun = 9, 7 }), edited(holdsDelta(t), func(s *hand.Spare) { s.Xid.Boot = 7 })} {
		for _, peer := range []int{0, 2, 2147483647} {
			wantTurned(t, "P23.2: taken over", s, hand.At{Own: 1, Peer: peer, There: true}, hand.Spare{Peer: peer}, hand.Deed{Event: api.EventTaken, Run: true, State: s.State})
			stays := hand.Spare{Peer: peer, Held: s.Held, Xid: s.Xid, Full: s.Full, Delta: s.Delta, State: s.State}
			wantTurned(t, "P23.2: it wasn't there", s, hand.At{Own: 1, Peer: peer}, stays, hand.Deed{})
		}
	}
	for _, s := range []hand.Spare{fresh(), hasStarted(), coming(t, fresh(), fullPieces(t)[0]), {Peer: 1, Top: 2, Closed: true}} {
		for _, peer := range []int{0, 2} {
			wantTurned(t, "P23.2: nothing is held", s, hand.At{Own: 1, Peer: peer, There: true}, hand.Spare{Peer: peer}, hand.Deed{})
		}
	}
	// Of a peer that wasn't known nobody has heard that it went down.
	s := edited(holdsFull(t), func(s *hand.Spare) { s.Peer, s.Top = 0, 0 })
	wantTurned(t, "P23.2: the peer wasn't known", s, hand.At{Own: 1, Peer: 1, There: true}, edited(s, func(s *hand.Spare) { s.Peer = 1 }), hand.Deed{})
	wantTurned(t, "P23.2: the peer isn't known", s, hand.At{Own: 1, There: true}, s, hand.Deed{})
}

// TestHave: what is held is told again at each boundary, while it is the newest and not closed.
func TestHave(t *testing.T) {
	for _, there := range []bool{false, true} {
		a := hand.At{Own: 1, Peer: 1, There: there}
		wantTurned(t, "P23.2: have", holdsFull(t), a, holdsFull(t), hand.Deed{Notes: []api.Note{haveNote(api.ImageFull, lastSum(fullBytes(t)))}})
		wantTurned(t, "P23.2: have", holdsDelta(t), a, holdsDelta(t), hand.Deed{Notes: []api.Note{haveNote(api.ImageDelta, lastSum(deltaBytes(t)))}})
		s := coming(t, holdsFull(t), deltaPieces(t)[0])
		wantTurned(t, "P23.2: have, and the delta is coming", s, a, s, hand.Deed{Notes: []api.Note{haveNote(api.ImageFull, lastSum(fullBytes(t)))}})
		for _, s := range []hand.Spare{
			fresh(), hasStarted(), coming(t, fresh(), fullPieces(t)[0]), edited(holdsFull(t), func(s *hand.Spare) { s.Closed = true }), edited(holdsFull(t), func(s *hand.Spare) { s.Top = 3 }),
			edited(holdsFull(t), func(s *hand.Spare) { s.Xid.Peer = 2 }), edited(holdsFull(t), func(s *hand.Spare) { s.Xid.Boot = 2 }),
		} {
			wantTurned(t, "P23.2: nothing to tell", s, a, s, hand.Deed{})
		}
		wantTurned(t, "P23.2: of another own boot", holdsFull(t), hand.At{Own: 2, Peer: 1, There: there}, holdsFull(t), hand.Deed{})
	}
}
