package hand

import (
	"slices"

	"ferry/api"
	"ferry/chunk"
	"ferry/plan"
	"ferry/valid"
	"ferry/xfer"
)

// Begin: a migration is asked for.
func Begin(part int, x api.Xid) (Source, error) {
	if !isName(part, x) {
		return Source{}, api.ErrArg
	}
	return Source{Phase: Packing, Part: part, Xid: x}, nil
}

// Good: is the source's value in form?
func Good(p api.Plan, s Source) bool { return checkSource(p, s) == nil }

// checkSource: what every call that takes a Source asks first.
func checkSource(p api.Plan, s Source) error {
	if plan.Check(p) != nil {
		return api.ErrPlan
	}
	if !isSource(p, s) {
		return api.ErrState
	}
	return nil
}

// isSource: is it in form for a plan in form?
func isSource(p api.Plan, s Source) bool {
	if s.Phase == Idle {
		return isBlank(s)
	}
	if s.Phase < Packing || s.Phase > Released || !isName(s.Part, s.Xid) {
		return false
	}
	if !s.Taken && s.Phase != Packing || s.Abort && s.Phase == Released {
		return false
	}
	if (s.Have || s.Refused) && stageOf(s) == 0 || s.Started && s.Phase != Released || s.Sum != 0 && s.Phase == Packing {
		return false
	}
	return isSending(s) && isFrozenState(p, s)
}

// isBlank: has it nothing beside its phase?
func isBlank(s Source) bool {
	return s.Part == 0 && s.Xid == api.Xid{} && !s.Taken && !s.Abort && !s.Have && !s.Refused && !s.Started && s.Sum == 0 && isNoSend(s.Send) && isNoState(s.State)
}

func isNoSend(s xfer.Send) bool {
	return s.Part == 0 && s.Xid == api.Xid{} && s.Stage == 0 && s.Image == "" && len(s.Acked) == 0 && s.Rounds == 0
}

// stageOf: which image is being sent; 0, if none is.
func stageOf(s Source) int {
	switch s.Phase {
	case Sending:
		return api.ImageFull
	case Closing:
		return api.ImageDelta
	}
	return 0
}

// isSending: is Send what the phase asks for?
func isSending(s Source) bool {
	stage := stageOf(s)
	if stage == 0 {
		return isNoSend(s.Send)
	}
	return s.Send.Part == s.Part && s.Send.Xid == s.Xid && s.Send.Stage == stage && xfer.Good(s.Send)
}

// isFrozenState: is State what the phase asks for?
func isFrozenState(p api.Plan, s Source) bool {
	if s.Phase < Freezing {
		return isNoState(s.State)
	}
	return isRest(p, s.State)
}

// copied: the Source as new memory.
func copied(s Source) Source {
	s.Send.Acked = slices.Clone(s.Send.Acked)
	s.State = valid.Copy(s.State)
	return s
}

// Ask: an abort is asked for.
func Ask(p api.Plan, s Source) (Source, error) {
	if err := checkSource(p, s); err != nil {
		return Source{}, err
	}
	switch s.Phase {
	case Idle:
		return Source{}, api.ErrNone
	case Released:
		return Source{}, api.ErrBusy
	}
	s = copied(s)
	s.Abort = true
	return s, nil
}

// Hear: a note comes to the source; did it count?
func Hear(p api.Plan, s Source, n api.Note, own, peer int) (Source, bool, error) {
	if err := checkSource(p, s); err != nil {
		return Source{}, false, err
	}
	if err := chunk.Check(n); err != nil {
		return Source{}, false, err
	}
	s = copied(s)
	// An idle Source has no Xid that a note could bear.
	if n.Part != s.Part || n.Xid != s.Xid || s.Xid.Boot != own || s.Xid.Peer != peer {
		return s, false, nil
	}
	next, counts := heard(s, n)
	return next, counts, nil
}

// heard: a note of the Source's own migration; does it count in this phase?
func heard(s Source, n api.Note) (Source, bool) {
	// Where nothing is sent the stage is 0, which no acknowledgement, HAVE or REFUSE has.
	ofSent := n.Stage == stageOf(s)
	switch {
	case n.Kind == api.MsgAck && ofSent:
		return acked(s, n)
	case n.Kind == api.MsgHave && ofSent:
		sum, is := sumOf(s.Send.Image)
		if !is || n.Sum != sum {
			return s, false
		}
		s.Have = true
	case n.Kind == api.MsgRefuse && ofSent:
		s.Refused = true
	case n.Kind == api.MsgStarted && s.Phase == Released:
		s.Started = true
	default:
		return s, false
	}
	return s, true
}

// acked: all that can be wrong in an acknowledgement of this stage is the number of pieces.
func acked(s Source, n api.Note) (Source, bool) {
	send, _, err := xfer.Ack(s.Send, n)
	if err != nil {
		return s, false
	}
	s.Send = send
	return s, true
}
