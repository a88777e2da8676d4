package hand_test

import (
	"ferry/api"
	"ferry/chunk"
	"ferry/delta"
	"ferry/epoch"
	"ferry/hand"
	"ferry/image"
	"ferry/plan"
	"ferry/valid"
	"ferry/xfer"
)

// isSource: what the chapter asks of a Source: what the phase names is looked at and then laid aside, and nothing is left.
func isSource(p api.Plan, s hand.Source) bool {
	is := plan.Check(p) == nil && s.Phase >= 0 && s.Phase <= 5
	rest := s
	rest.Phase = 0
	sent := func(stage int) {
		is = is && xfer.Good(s.Send) && s.Send.Part == s.Part && s.Send.Xid == s.Xid && s.Send.Stage == stage
		rest.Send, rest.Have, rest.Refused = xfer.Send{}, false, false
	}
	frozen := func() {
		is = is && valid.Rest(p, s.State) == nil
		rest.State = api.State{}
	}
	if s.Phase > 0 {
		is = is && isName(s.Part, s.Xid) && (s.Taken || s.Phase == 1)
		rest.Part, rest.Xid, rest.Taken = 0, api.Xid{}, false
	}
	if s.Phase > 0 && s.Phase < 5 {
		rest.Abort = false
	}
	if s.Phase > 1 {
		rest.Sum = 0
	}
	switch s.Phase {
	case 2:
		sent(1)
	case 3:
		frozen()
	case 4:
		sent(2)
		frozen()
	case 5:
		frozen()
		rest.Started = false
	}
	return is && same(rest, hand.Source{})
}

// hearOf: what Hear is to answer of a Source in form.
func hearOf(s hand.Source, n api.Note, own, peer int) (hand.Source, bool, error) {
	if err := chunk.Check(n); err != nil {
		return hand.Source{}, false, err
	}
	if s.Phase == 0 || n.Part != s.Part || n.Xid != s.Xid || n.Xid.Boot != own || n.Xid.Peer != peer {
		return s, false, nil
	}
	counts, change := heardOf(s.Phase, n)
	switch {
	case n.Kind == api.MsgAck:
		counts = counts && n.Total == (len(s.Send.Image)+127)/128
	case n.Kind == api.MsgHave && counts:
		counts = len(s.Send.Image) >= 4 && n.Sum == lastSum([]byte(s.Send.Image))
	}
	if !counts {
		return s, false, nil
	}
	s = roomy(s)
	change(&s)
	return s, true, nil
}

// row is one of the table of Bound.
type row struct {
	phases string
	when   bool
	then   func() (hand.Source, hand.Deed, error)
}

// boundOf: what Bound is to answer of a Source in form, by the rows of the table.
func boundOf(p api.Plan, s hand.Source, a hand.At) (hand.Source, hand.Deed, error) {
	if !isNumber(a.Own) || !isNumber(a.Peer) && a.Peer != 0 || a.Tries < 0 || a.Tries > 64 {
		return hand.Source{}, hand.Deed{}, api.ErrArg
	}
	note := func(kind int) []api.Note { return []api.Note{{Kind: kind, Part: s.Part, Xid: s.Xid}} }
	aborted := func(phase int) (hand.Source, hand.Deed, error) {
		d := hand.Deed{Event: 6, Notes: note(6), Cancel: phase == 1 && s.Taken || phase == 3}
		if phase == 3 || phase == 4 {
			d.Run, d.State = true, s.State
		}
		return hand.Source{}, d, nil
	}
	round := func(next hand.Source) (hand.Source, hand.Deed, error) {
		send, notes, on, _ := xfer.Round(next.Send, a.Tries)
		if !on {
			return aborted(next.Phase)
		}
		next.Send = send
		return next, hand.Deed{Notes: notes}, nil
	}
	to := func(phase int, edit func(n *hand.Source)) hand.Source {
		n := s
		n.Phase = phase
		edit(&n)
		return n
	}
	refused := func() (hand.Source, hand.Deed, error) { return hand.Source{}, hand.Deed{}, api.ErrArg }
	stay := func() (hand.Source, hand.Deed, error) { return s, hand.Deed{}, nil }
	head, wrong := image.Look(a.Image)
	other := a.Own != s.Xid.Boot || a.Peer != s.Xid.Peer
	for _, x := range []row{
		{"0", true, stay},
		{"1234", s.Abort || s.Refused || other, func() (hand.Source, hand.Deed, error) { return aborted(s.Phase) }},
		{"1", !s.Taken, func() (hand.Source, hand.Deed, error) {
			if err := valid.Rest(p, a.State); err != nil {
				return hand.Source{}, hand.Deed{}, err
			}
			m, err := epoch.Mark(p, a.State)
			if err != nil {
				return hand.Source{}, hand.Deed{}, err
			}
			return to(1, func(n *hand.Source) { n.Taken = true }), hand.Deed{Event: 1, Job: 1, Run: true, State: m}, nil
		}},
		{"1", len(a.Image) == 0, stay},
		{"1", wrong != nil || head.Kind != 1, refused},
		{"1", true, func() (hand.Source, hand.Deed, error) {
			return round(to(2, func(n *hand.Source) {
				n.Sum = lastSum(a.Image)
				n.Send, _ = xfer.Start(s.Part, s.Xid, 1, a.Image)
			}))
		}},
		{"2", s.Have, func() (hand.Source, hand.Deed, error) {
			if err := valid.Rest(p, a.State); err != nil {
				return hand.Source{}, hand.Deed{}, err
			}
			return to(3, func(n *hand.Source) { n.State, n.Have, n.Send = a.State, false, xfer.Send{} }), hand.Deed{Event: 2, Job: 2, Base: s.Sum, Freeze: true, State: a.State}, nil
		}},
		{"24", !s.Have, func() (hand.Source, hand.Deed, error) { return round(s) }},
		{"3", len(a.Image) == 0, stay},
		{"3", wrong != nil || head.Kind != 2, refused},
		{"3", true, func() (hand.Source, hand.Deed, error) {
			return round(to(4, func(n *hand.Source) { n.Send, _ = xfer.Start(s.Part, s.Xid, 2, a.Image) }))
		}},
		{"4", true, func() (hand.Source, hand.Deed, error) {
			return to(5, func(n *hand.Source) { n.Have, n.Send = false, xfer.Send{} }), hand.Deed{Event: 3, Notes: note(4)}, nil
		}},
		{"5", other, func() (hand.Source, hand.Deed, error) {
			return hand.Source{}, hand.Deed{Event: 7, Run: true, State: s.State}, nil
		}},
		{"5", s.Started, func() (hand.Source, hand.Deed, error) { return hand.Source{}, hand.Deed{Event: 5}, nil }},
		{"5", true, func() (hand.Source, hand.Deed, error) { return s, hand.Deed{Notes: note(4)}, nil }},
	} {
		for _, phase := range x.phases {
			if int(phase-'0') == s.Phase && x.when {
				return x.then()
			}
		}
	}
	panic("no row applies")
}

// isSpare: what the chapter asks of a Spare.
func isSpare(p api.Plan, s hand.Spare) bool {
	number := func(n int) bool { return n == 0 || isNumber(n) }
	_, _, recv := xfer.Whole(s.Recv)
	is := []bool{
		plan.Check(p) == nil,
		number(s.Peer), number(s.Top), number(s.Begun),
		s.Peer != 0 || s.Top == 0, s.Peer != 0 || !s.Closed, s.Peer != 0 || s.Begun == 0,
		s.Begun <= s.Top,
		recv == nil,
		!s.Recv.On || s.Top != 0, !s.Recv.On || !s.Closed, !s.Recv.On || s.Recv.Stage.Xid.Num == s.Top, !s.Recv.On || s.Recv.Stage.Xid.Boot == s.Peer,
		s.Held == 0 || s.Held == 1 || s.Held == 2,
		s.Held != 0 || s.Xid == api.Xid{}, s.Held == 0 || isName(0, s.Xid),
		s.Held != 0 || same(s.State, api.State{}), s.Held == 0 || valid.Rest(p, s.State) == nil,
		s.Held != 0 || s.Full == 0, s.Held == 2 || s.Delta == 0,
		!s.Commit || s.Held == 2, !s.Commit || !s.Closed, !s.Commit || s.Xid.Num == s.Top, !s.Commit || s.Xid.Boot == s.Peer,
	}
	for _, b := range is {
		if !b {
			return false
		}
	}
	return true
}

// spare is a second Spare, changed in place, of which the calls tell what is answered.
type spare struct {
	hand.Spare
	p         api.Plan
	part, own int
}

func (s *spare) topHeld() bool {
	return s.Held != 0 && s.Xid.Boot == s.Peer && s.Xid.Peer == s.own && s.Xid.Num == s.Top
}

func (s *spare) forget() {
	s.Held, s.Xid, s.Full, s.Delta, s.State = 0, api.Xid{}, 0, 0, api.State{}
}

func (s *spare) have(stage int) api.Note {
	return api.Note{Kind: 2, Part: s.part, Xid: s.Xid, Stage: stage, Sum: []uint32{0, s.Full, s.Delta}[stage]}
}

// catch: what Catch is to do and to answer of a Spare in form and a note in form.
func (s *spare) catch(n api.Note, mine bool) []api.Note {
	num := n.Xid.Num
	if n.Part != s.part || s.Peer == 0 || n.Xid.Boot != s.Peer || n.Xid.Peer != s.own {
		return nil
	}
	switch n.Kind {
	case api.MsgCommit:
		if num == s.Begun {
			return []api.Note{{Kind: 5, Part: n.Part, Xid: n.Xid}}
		}
		s.Commit = s.Commit || num == s.Top && !s.Closed && s.topHeld() && s.Held == 2
		return nil
	case api.MsgCancel:
		if num > s.Top || num == s.Top && !s.Closed {
			s.Top, s.Closed, s.Recv, s.Commit = num, true, xfer.Recv{}, false
			if s.Xid == n.Xid {
				s.forget()
			}
		}
		return nil
	case api.MsgChunk:
		if !mine && (num > s.Top || num == s.Top && !s.Closed) {
			return s.come(n)
		}
	}
	return nil
}

func (s *spare) come(n api.Note) []api.Note {
	if n.Xid.Num > s.Top {
		s.Top, s.Recv, s.Closed, s.Commit = n.Xid.Num, xfer.Recv{}, false, false
	}
	ack := api.Note{Kind: 7, Part: n.Part, Xid: n.Xid, Stage: n.Stage, Index: n.Index, Total: n.Total}
	if s.topHeld() && (n.Stage == 1 || s.Held == 2) {
		return []api.Note{ack, s.have(n.Stage)}
	}
	if n.Stage == 2 && !s.topHeld() {
		return nil
	}
	recv, _, err := xfer.Take(s.Recv, n)
	if err != nil {
		return nil
	}
	s.Recv = recv
	b, whole, _ := xfer.Whole(recv)
	if !whole {
		return []api.Note{ack}
	}
	s.Recv = xfer.Recv{}
	var state api.State
	if n.Stage == 1 {
		state, err = image.Decode(s.p, b)
	} else {
		state, err = delta.Apply(s.p, s.State, s.Full, b)
	}
	if err != nil {
		s.Closed, s.Commit = true, false
		return []api.Note{ack, {Kind: 3, Part: n.Part, Xid: n.Xid, Stage: n.Stage}}
	}
	s.Held, s.Xid, s.State = n.Stage, n.Xid, state
	if n.Stage == 1 {
		s.Full, s.Delta, s.Commit = lastSum(b), 0, false
	} else {
		s.Delta = lastSum(b)
	}
	return []api.Note{ack, s.have(n.Stage)}
}

// turn: what Turn is to do and to answer of a Spare in form.
func (s *spare) turn(a hand.At) hand.Deed {
	var d hand.Deed
	if s.Commit {
		d = hand.Deed{Event: 4, Run: true, State: s.State, Notes: []api.Note{{Kind: 5, Part: s.part, Xid: s.Xid}}}
		s.forget()
		s.Begun, s.Closed, s.Recv, s.Commit = s.Top, true, xfer.Recv{}, false
	} else if a.Peer != s.Peer && s.Peer != 0 && a.There && s.Held != 0 {
		d = hand.Deed{Event: 8, Run: true, State: s.State}
		s.forget()
	} else if s.topHeld() && !s.Closed && a.Peer == s.Peer {
		d.Notes = []api.Note{s.have(s.Held)}
	}
	if a.Peer != s.Peer {
		was := s.Spare
		s.Spare = hand.Spare{Peer: a.Peer, Held: was.Held, Xid: was.Xid, Full: was.Full, Delta: was.Delta, State: was.State}
	}
	return d
}
