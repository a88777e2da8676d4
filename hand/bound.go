package hand

import (
	"ferry/api"
	"ferry/epoch"
	"ferry/image"
	"ferry/valid"
	"ferry/xfer"
)

// Bound: a boundary at the source.
func Bound(p api.Plan, s Source, a At) (Source, Deed, error) {
	if err := checkSource(p, s); err != nil {
		return Source{}, Deed{}, err
	}
	if !isBoot(a.Own) || !isKnown(a.Peer) || a.Tries < 0 || a.Tries > api.MaxTries {
		return Source{}, Deed{}, api.ErrArg
	}
	s = copied(s)
	crossed := a.Own != s.Xid.Boot || a.Peer != s.Xid.Peer
	switch {
	case s.Phase == Idle:
		return s, Deed{}, nil
	case s.Phase == Released:
		next, deed := released(s, crossed)
		return next, deed, nil
	case s.Abort || s.Refused || crossed:
		return Source{}, aborted(s), nil
	}
	switch s.Phase {
	case Packing:
		return packing(p, s, a)
	case Sending:
		return sending(p, s, a)
	case Freezing:
		return packed(s, a, Closing)
	}
	return closing(s, a)
}

// packing: the state is taken first; then its image is waited for.
func packing(p api.Plan, s Source, a At) (Source, Deed, error) {
	if s.Taken {
		return packed(s, a, Sending)
	}
	// Mark doesn't tell which rule is broken.
	if err := valid.Rest(p, a.State); err != nil {
		return Source{}, Deed{}, err
	}
	mark, err := epoch.Mark(p, a.State)
	if err != nil {
		return Source{}, Deed{}, err
	}
	s.Taken = true
	return s, Deed{Event: api.EventBegun, Job: api.ImageFull, Run: true, State: mark}, nil
}

// packed: the image that is to be sent in the phase next, if it is ready, goes on its way.
func packed(s Source, a At, next int) (Source, Deed, error) {
	if len(a.Image) == 0 {
		return s, Deed{}, nil
	}
	s.Phase = next
	head, err := image.Look(a.Image)
	if err != nil || head.Kind != stageOf(s) {
		return Source{}, Deed{}, api.ErrArg
	}
	s.Send, err = xfer.Start(s.Part, s.Xid, head.Kind, a.Image)
	if err != nil {
		return Source{}, Deed{}, err
	}
	// A delta's sum isn't kept: nothing is laid over it.
	if next == Sending {
		s.Sum = head.Sum
	}
	return round(s, a.Tries)
}

func sending(p api.Plan, s Source, a At) (Source, Deed, error) {
	if !s.Have {
		return round(s, a.Tries)
	}
	if err := valid.Rest(p, a.State); err != nil {
		return Source{}, Deed{}, err
	}
	s.Phase, s.Have, s.Send, s.State = Freezing, false, xfer.Send{}, valid.Copy(a.State)
	return s, Deed{Event: api.EventFrozen, Job: api.ImageDelta, Base: s.Sum, Freeze: true, State: valid.Copy(a.State)}, nil
}

func closing(s Source, a At) (Source, Deed, error) {
	if !s.Have {
		return round(s, a.Tries)
	}
	s.Phase, s.Have, s.Send = Released, false, xfer.Send{}
	return s, Deed{Event: api.EventReleased, Notes: told(s, api.MsgCommit)}, nil
}

// round: what hasn't been acknowledged goes out again, unless that was tried in vain.
func round(s Source, tries int) (Source, Deed, error) {
	send, notes, on, err := xfer.Round(s.Send, tries)
	if err != nil {
		return Source{}, Deed{}, err
	}
	if !on {
		return Source{}, aborted(s), nil
	}
	s.Send = send
	return s, Deed{Notes: notes}, nil
}

// aborted: the partition goes on at the source; if it is frozen, from there.
func aborted(s Source) Deed {
	d := Deed{Event: api.EventAborted, Notes: told(s, api.MsgCancel)}
	d.Cancel = s.Phase == Packing && s.Taken || s.Phase == Freezing
	if s.Phase == Freezing || s.Phase == Closing {
		d.Run, d.State = true, s.State
	}
	return d
}

// released: crossed says that one of the modules isn't any more what it was at the begin.
func released(s Source, crossed bool) (Source, Deed) {
	switch {
	case crossed:
		return Source{}, Deed{Event: api.EventBack, Run: true, State: s.State}
	case s.Started:
		return Source{}, Deed{Event: api.EventOver}
	}
	return s, Deed{Notes: told(s, api.MsgCommit)}
}

// told: the one note of that kind.
func told(s Source, kind int) []api.Note { return []api.Note{plain(kind, s.Part, s.Xid)} }
