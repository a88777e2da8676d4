package hand

import (
	"slices"

	"ferry/api"
	"ferry/chunk"
	"ferry/delta"
	"ferry/image"
	"ferry/plan"
	"ferry/valid"
	"ferry/xfer"
)

// Fit: is the spare's value in form?
func Fit(p api.Plan, s Spare) bool { return checkSpare(p, s) == nil }

// checkSpare: what every call that takes a Spare asks first.
func checkSpare(p api.Plan, s Spare) error {
	if plan.Check(p) != nil {
		return api.ErrPlan
	}
	if !isCounted(s) || !isComing(s) || !isHeld(p, s) || !isCommit(s) {
		return api.ErrState
	}
	return nil
}

// isCounted: are the numbers in their ranges, and is nothing known of the migrations of a peer that isn't?
func isCounted(s Spare) bool {
	if !isKnown(s.Peer) || !isKnown(s.Top) || !isKnown(s.Begun) || s.Begun > s.Top {
		return false
	}
	// Begun is 0 where Top is.
	return s.Peer != 0 || s.Top == 0 && !s.Closed
}

// isComing: is Recv in form, and of Top, if something is coming?
func isComing(s Spare) bool {
	// Whole asks for the form ahead of all else, and answers every Recv that is in form.
	if _, _, err := xfer.Whole(s.Recv); err != nil {
		return false
	}
	// What comes has an Xid, in which no number is 0.
	x := s.Recv.Stage.Xid
	return !s.Recv.On || !s.Closed && x.Num == s.Top && x.Boot == s.Peer
}

// isHeld: is all that is told of what is held as Held asks?
func isHeld(p api.Plan, s Spare) bool {
	switch s.Held {
	case 0:
		return s.Xid == api.Xid{} && s.Full == 0 && s.Delta == 0 && isNoState(s.State)
	case api.ImageFull, api.ImageDelta:
		return isName(0, s.Xid) && isRest(p, s.State) && (s.Delta == 0 || s.Held == api.ImageDelta)
	}
	return false
}

// isCommit: could a commit be heard, if it was?
func isCommit(s Spare) bool {
	return !s.Commit || s.Held == api.ImageDelta && !s.Closed && s.Xid.Num == s.Top && s.Xid.Boot == s.Peer
}

// copiedSpare: the Spare as new memory.
func copiedSpare(s Spare) Spare {
	s.Recv.Stage.Pieces = slices.Clone(s.Recv.Stage.Pieces)
	s.State = valid.Copy(s.State)
	return s
}

// isTopHeld: is what is held the newest migration's?
func isTopHeld(s Spare, own int) bool {
	return s.Held != 0 && s.Xid == api.Xid{Boot: s.Peer, Peer: own, Num: s.Top}
}

// heldSum: that of the image of which the state that is held came last.
func heldSum(s Spare) uint32 {
	if s.Held == api.ImageDelta {
		return s.Delta
	}
	return s.Full
}

// dropped: nothing is held any more.
func dropped(s Spare) Spare {
	s.Held, s.Xid, s.Full, s.Delta, s.State = 0, api.Xid{}, 0, 0, api.State{}
	return s
}

// Catch: a note comes to the spare; its answers.
func Catch(p api.Plan, part int, s Spare, n api.Note, own int, mine bool) (Spare, []api.Note, error) {
	if err := checkSpare(p, s); err != nil {
		return Spare{}, nil, err
	}
	if !isPart(part) || !isBoot(own) {
		return Spare{}, nil, api.ErrArg
	}
	if err := chunk.Check(n); err != nil {
		return Spare{}, nil, err
	}
	s = copiedSpare(s)
	// A peer that is down or unknown has the boot 0, which no note bears.
	if n.Part != part || n.Xid.Boot != s.Peer || n.Xid.Peer != own {
		return s, nil, nil
	}
	var answers []api.Note
	switch {
	case n.Kind == api.MsgCommit:
		s, answers = commit(s, n)
	case n.Kind == api.MsgCancel:
		s = cancel(s, n.Xid)
	case n.Kind == api.MsgChunk && !mine:
		s, answers = come(p, s, n)
	}
	return s, answers, nil
}

// isPast: is the migration of that number closed, or older than the newest?
func isPast(s Spare, num int) bool { return num < s.Top || num == s.Top && s.Closed }

// commit: the partition is this side's from the next boundary on, or is already.
func commit(s Spare, n api.Note) (Spare, []api.Note) {
	if n.Xid.Num == s.Begun {
		return s, []api.Note{answer(n, api.MsgStarted, 0)}
	}
	// The note has the boots of now: if what is held has its Xid and it is of Top, Top is held.
	if n.Xid.Num == s.Top && !s.Closed && s.Held == api.ImageDelta && s.Xid == n.Xid {
		s.Commit = true
	}
	return s, nil
}

// cancel: the migration is closed, and what is held of it is dropped.
func cancel(s Spare, x api.Xid) Spare {
	if isPast(s, x.Num) {
		return s
	}
	s.Top, s.Closed, s.Recv, s.Commit = x.Num, true, xfer.Recv{}, false
	if s.Xid == x {
		return dropped(s)
	}
	return s
}

// come: a piece of an image.
func come(p api.Plan, s Spare, n api.Note) (Spare, []api.Note) {
	if isPast(s, n.Xid.Num) {
		return s, nil
	}
	if n.Xid.Num > s.Top {
		s.Top, s.Recv, s.Closed, s.Commit = n.Xid.Num, xfer.Recv{}, false, false
	}
	held := isTopHeld(s, n.Xid.Peer)
	switch {
	case held && n.Stage == api.ImageFull:
		return s, hadAlready(n, s.Full)
	case held && s.Held == api.ImageDelta:
		return s, hadAlready(n, s.Delta)
	case !held && n.Stage == api.ImageDelta:
		return s, nil
	}
	return stage(p, s, n)
}

// hadAlready: what answers a piece of an image that is held.
func hadAlready(n api.Note, sum uint32) []api.Note {
	return []api.Note{answer(n, api.MsgAck, 0), answer(n, api.MsgHave, sum)}
}

// stage: the piece is put to the others, and what is whole by that is read.
func stage(p api.Plan, s Spare, n api.Note) (Spare, []api.Note) {
	recv, ack, err := xfer.Take(s.Recv, n)
	if err != nil {
		return s, nil
	}
	s.Recv = recv
	// What Take answers is in form, so there is no error.
	b, whole, _ := xfer.Whole(recv)
	if !whole {
		return s, []api.Note{ack}
	}
	s.Recv = xfer.Recv{}
	next, err := read(p, s, n, b)
	if err != nil {
		s.Closed, s.Commit = true, false
		return s, []api.Note{ack, answer(n, api.MsgRefuse, 0)}
	}
	return next, []api.Note{ack, answer(n, api.MsgHave, heldSum(next))}
}

// read: the state that the image says is held, of the migration of the note that made it whole.
func read(p api.Plan, s Spare, n api.Note, b []byte) (Spare, error) {
	// What is taken for an image has its sum.
	sum, _ := sumOf(string(b))
	if n.Stage == api.ImageDelta {
		state, err := delta.Apply(p, s.State, s.Full, b)
		if err != nil {
			return Spare{}, err
		}
		s.Held, s.State, s.Delta = api.ImageDelta, state, sum
		return s, nil
	}
	state, err := image.Decode(p, b)
	if err != nil {
		return Spare{}, err
	}
	s.Held, s.Xid, s.State, s.Full, s.Delta, s.Commit = api.ImageFull, n.Xid, state, sum, 0, false
	return s, nil
}

// answer: each is asked for only where it answers a note of that kind, so there is no error.
func answer(n api.Note, kind int, sum uint32) api.Note {
	a, _ := chunk.Answer(n, kind, sum)
	return a
}

// Turn: a boundary at the spare.
func Turn(p api.Plan, part int, s Spare, a At) (Spare, Deed, error) {
	if err := checkSpare(p, s); err != nil {
		return Spare{}, Deed{}, err
	}
	if !isPart(part) || !isBoot(a.Own) || !isKnown(a.Peer) {
		return Spare{}, Deed{}, api.ErrArg
	}
	s = copiedSpare(s)
	another := a.Peer != s.Peer
	var d Deed
	switch {
	case s.Commit:
		d = Deed{Event: api.EventStarted, Run: true, State: s.State, Notes: []api.Note{plain(api.MsgStarted, part, s.Xid)}}
		s = dropped(s)
		s.Begun, s.Closed, s.Recv, s.Commit = s.Top, true, xfer.Recv{}, false
	case another && s.Peer != 0 && a.There && s.Held != 0:
		d = Deed{Event: api.EventTaken, Run: true, State: s.State}
		s = dropped(s)
	case !another && !s.Closed && isTopHeld(s, a.Own):
		d.Notes = []api.Note{{Kind: api.MsgHave, Part: part, Xid: s.Xid, Stage: s.Held, Sum: heldSum(s)}}
	}
	if another {
		// What is still held stays, for a later take-over.
		s = Spare{Peer: a.Peer, Held: s.Held, Xid: s.Xid, Full: s.Full, Delta: s.Delta, State: s.State}
	}
	return s, d, nil
}
