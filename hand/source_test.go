package hand_test

import (
	"fmt"
	"testing"

	"ferry/api"
	"ferry/hand"
	"ferry/image"
	"ferry/xfer"
)

// TestBegin: every number at its edges.
func TestBegin(t *testing.T) {
	for _, v := range edges() {
		for _, c := range []struct {
			part int
			x    api.Xid
		}{
			{v, exampleXid()}, {2, api.Xid{Boot: v, Peer: 1, Num: 2}}, {2, api.Xid{Boot: 1, Peer: v, Num: 2}}, {2, api.Xid{Boot: 1, Peer: 1, Num: v}},
		} {
			s, err := hand.Begin(c.part, c.x)
			what := fmt.Sprintf("P23.1: Begin(%d, %v)", c.part, c.x)
			if !isName(c.part, c.x) {
				wantBare(t, what, err, api.ErrArg)
				wantSame(t, what, s, hand.Source{})
				continue
			}
			wantBare(t, what, err, nil)
			wantSame(t, what, s, hand.Source{Phase: hand.Packing, Part: c.part, Xid: c.x})
			if !hand.Good(examplePlan(), s) {
				t.Errorf("%s isn't in form", what)
			}
		}
	}
}

// phased: a Source in form of each phase, that of Packing taken.
func phased(t *testing.T, phase int) hand.Source {
	t.Helper()
	s := hand.Source{Phase: phase, Part: 2, Xid: exampleXid(), Taken: true}
	full := encode(t, examplePlan(), mark(t, examplePlan(), exampleState(1, 0)))
	switch phase {
	case hand.Idle:
		return hand.Source{}
	case hand.Packing:
		return s
	case hand.Sending:
		s.Send = start(t, 2, exampleXid(), api.ImageFull, full)
	default:
		s.State = exampleState(3, 1)
	}
	s.Sum = lastSum(full)
	if phase == hand.Closing {
		s.Send = start(t, 2, exampleXid(), api.ImageDelta, makeDelta(t, examplePlan(), s.State, s.Sum))
	}
	return s
}

// at: what a boundary of the example knows.
func at(state api.State, image []byte) hand.At {
	return hand.At{Own: 1, Peer: 1, Tries: 3, State: state, Image: image}
}

// allPhases: from Idle to Released.
func allPhases() []int {
	return []int{hand.Idle, hand.Packing, hand.Sending, hand.Freezing, hand.Closing, hand.Released}
}

// wantJudged holds Good, and the calls that ask it first, against the second reading.
func wantJudged(t *testing.T, p api.Plan, s hand.Source) {
	t.Helper()
	is := isSource(p, s)
	if hand.Good(p, s) != is {
		t.Errorf("P23.1: Good is %v of %+v", !is, s)
	}
	if is {
		return
	}
	// The state comes ahead of all that is wrong with the other arguments.
	next, err := ask(t, p, s)
	wantBare(t, "P23.1: Ask", err, api.ErrState)
	wantSame(t, "P23.1: Ask", next, hand.Source{})
	next, counts, err := hear(t, p, s, api.Note{}, 0, 0)
	wantBare(t, "P23.1: Hear", err, api.ErrState)
	wantSame(t, "P23.1: Hear", next, hand.Source{})
	next, d, err := bound(t, p, s, hand.At{})
	wantBare(t, "P23.1: Bound", err, api.ErrState)
	wantSame(t, "P23.1: Bound", next, hand.Source{})
	wantSame(t, "P23.1: Bound", d, hand.Deed{})
	if counts {
		t.Errorf("P23.1: Hear tells true beside an error")
	}
}

// TestSourceForm: each field of a Source of each phase, in form and beside it.
func TestSourceForm(t *testing.T) {
	p := examplePlan()
	for _, phase := range allPhases() {
		s := phased(t, phase)
		if !hand.Good(p, s) {
			t.Errorf("P23.1: the Source of phase %d isn't in form", phase)
		}
		for _, other := range allPhases() {
			o := phased(t, other)
			for _, edit := range []func(s *hand.Source){
				func(s *hand.Source) { s.Phase = other }, func(s *hand.Source) { s.Send = o.Send }, func(s *hand.Source) { s.State = o.State }, func(s *hand.Source) { s.Sum = o.Sum },
				func(s *hand.Source) { s.Send, s.State = o.Send, o.State }, func(s *hand.Source) { s.Send, s.State, s.Sum = o.Send, o.State, 0 },
			} {
				wantJudged(t, p, edited(s, edit))
			}
		}
		for _, edit := range []func(s *hand.Source){
			func(s *hand.Source) { s.Taken = !s.Taken }, func(s *hand.Source) { s.Abort = true }, func(s *hand.Source) { s.Have = true }, func(s *hand.Source) { s.Refused = true },
			func(s *hand.Source) { s.Started = true }, func(s *hand.Source) { s.Sum = 9 }, func(s *hand.Source) { s.Have, s.Refused, s.Abort = true, true, true },
			func(s *hand.Source) { s.State.Id = 4 }, func(s *hand.Source) { s.State.Frame = -1 }, func(s *hand.Source) { s.State.Frame = 1 }, func(s *hand.Source) { s.State.Up = []bool{} },
			func(s *hand.Source) { s.State.Up = []bool{true} }, func(s *hand.Source) { s.Send.Rounds = 1 }, func(s *hand.Source) { s.Send.Rounds = -1 },
			func(s *hand.Source) { s.Send.Acked = nil }, func(s *hand.Source) { s.Send.Acked = []bool{} }, func(s *hand.Source) { s.Send.Acked = []bool{true} }, func(s *hand.Source) { s.Send.Image = "x" },
			func(s *hand.Source) { s.Send.Part, s.Part = 3, 3 }, func(s *hand.Source) { s.Send.Xid.Num, s.Xid.Num = 4, 4 }, func(s *hand.Source) { s.Send.Stage = 3 - s.Send.Stage },
		} {
			wantJudged(t, p, edited(s, edit))
		}
		for _, v := range edges() {
			for _, edit := range []func(s *hand.Source){
				func(s *hand.Source) { s.Phase = v }, func(s *hand.Source) { s.Part = v }, func(s *hand.Source) { s.Xid.Boot = v }, func(s *hand.Source) { s.Xid.Peer = v }, func(s *hand.Source) { s.Xid.Num = v },
				func(s *hand.Source) { s.Send.Part = v }, func(s *hand.Source) { s.Send.Xid.Boot = v }, func(s *hand.Source) { s.Send.Xid.Peer = v }, func(s *hand.Source) { s.Send.Xid.Num = v }, func(s *hand.Source) { s.Send.Stage = v },
			} {
				wantJudged(t, p, edited(s, edit))
			}
		}
	}
}

// TestSourcePlan: a plan that isn't in form comes ahead of all else; a state is asked by its own plan.
func TestSourcePlan(t *testing.T) {
	for _, phase := range allPhases() {
		for _, s := range []hand.Source{phased(t, phase), edited(phased(t, phase), func(s *hand.Source) { s.Part = -1 })} {
			if hand.Good(badPlan(), s) {
				t.Errorf("P23.1: Good of a plan that isn't one")
			}
			_, err := ask(t, badPlan(), s)
			wantBare(t, "P23.1: Ask", err, api.ErrPlan)
			_, _, err = hear(t, badPlan(), s, api.Note{}, 0, 0)
			wantBare(t, "P23.1: Hear", err, api.ErrPlan)
			_, _, err = bound(t, badPlan(), s, hand.At{})
			wantBare(t, "P23.1: Bound", err, api.ErrPlan)
		}
		other := examplePlan()
		other.Id = 4
		wantJudged(t, other, phased(t, phase))
	}
}

// TestAsk: in each phase, once and again.
func TestAsk(t *testing.T) {
	p := examplePlan()
	for _, phase := range allPhases() {
		s := phased(t, phase)
		if wanted := map[int]error{hand.Idle: api.ErrNone, hand.Released: api.ErrBusy}[phase]; wanted != nil {
			next, err := ask(t, p, s)
			wantBare(t, fmt.Sprintf("P23.1: Ask in phase %d", phase), err, wanted)
			wantSame(t, "P23.1: Ask", next, hand.Source{})
			continue
		}
		s.Abort = true
		for _, of := range []hand.Source{phased(t, phase), s} {
			next, err := ask(t, p, of)
			wantBare(t, fmt.Sprintf("P23.1: Ask in phase %d", phase), err, nil)
			wantSame(t, "P23.1: Ask", next, s)
		}
	}
	begun, err := hand.Begin(2, exampleXid())
	wantBare(t, "P23.1: Begin", err, nil)
	next, err := ask(t, p, begun)
	wantBare(t, "P23.1: Ask of what isn't taken", err, nil)
	wantSame(t, "P23.1: Ask", next, hand.Source{Phase: hand.Packing, Part: 2, Xid: exampleXid(), Abort: true})
}

// ownNotes: a note of each kind and stage, of the example's migration, with the sums of what is sent.
func ownNotes(t *testing.T) []api.Note {
	t.Helper()
	x := exampleXid()
	l := []api.Note{{Kind: api.MsgCommit, Part: 2, Xid: x}, {Kind: api.MsgStarted, Part: 2, Xid: x}, {Kind: api.MsgCancel, Part: 2, Xid: x}}
	for stage, phase := range map[int]int{api.ImageFull: hand.Sending, api.ImageDelta: hand.Closing} {
		s := phased(t, phase).Send
		l = append(l, cut(t, 2, x, stage, []byte(s.Image))...)
		l = append(l, api.Note{Kind: api.MsgHave, Part: 2, Xid: x, Stage: stage, Sum: lastSum([]byte(s.Image))}, api.Note{Kind: api.MsgRefuse, Part: 2, Xid: x, Stage: stage})
		l = append(l, api.Note{Kind: api.MsgAck, Part: 2, Xid: x, Stage: stage, Index: 1, Total: len(s.Acked)})
	}
	return l
}

// heardOf: what counts where, by the chapter's table, and what it changes.
func heardOf(phase int, n api.Note) (counts bool, change func(s *hand.Source)) {
	type key struct{ phase, kind, stage int }
	changes := map[key]func(s *hand.Source){
		{hand.Sending, api.MsgAck, api.ImageFull}:     func(s *hand.Source) { s.Send.Acked[n.Index] = true },
		{hand.Closing, api.MsgAck, api.ImageDelta}:    func(s *hand.Source) { s.Send.Acked[n.Index] = true },
		{hand.Sending, api.MsgHave, api.ImageFull}:    func(s *hand.Source) { s.Have = true },
		{hand.Closing, api.MsgHave, api.ImageDelta}:   func(s *hand.Source) { s.Have = true },
		{hand.Sending, api.MsgRefuse, api.ImageFull}:  func(s *hand.Source) { s.Refused = true },
		{hand.Closing, api.MsgRefuse, api.ImageDelta}: func(s *hand.Source) { s.Refused = true },
		{hand.Released, api.MsgStarted, 0}:            func(s *hand.Source) { s.Started = true },
	}
	change, counts = changes[key{phase, n.Kind, n.Stage}]
	return counts, change
}

// wantHeard looks at what Hear answers; change is nil where the note doesn't count.
func wantHeard(t *testing.T, what string, s hand.Source, n api.Note, own, peer int, change func(s *hand.Source)) hand.Source {
	t.Helper()
	next, counts, err := hear(t, examplePlan(), s, n, own, peer)
	wantBare(t, what, err, nil)
	if counts != (change != nil) {
		t.Errorf("%s: Hear of %v in phase %d tells %v", what, n, s.Phase, counts)
	}
	wanted := roomy(s)
	if change != nil {
		change(&wanted)
	}
	wantSame(t, what, next, wanted)
	return next
}

// TestHear: each kind and stage in each phase, once and again; of others nothing counts.
func TestHear(t *testing.T) {
	for _, phase := range allPhases() {
		for _, n := range ownNotes(t) {
			s := phased(t, phase)
			_, change := heardOf(phase, n)
			next := wantHeard(t, "P23.1: Hear", s, n, 1, 1, change)
			wantHeard(t, "P23.1: Hear again", next, n, 1, 1, change)
			for _, other := range []api.Note{
				edited(n, func(n *api.Note) { n.Part = 1 }), edited(n, func(n *api.Note) { n.Xid.Boot = 2 }), edited(n, func(n *api.Note) { n.Xid.Peer = 2 }), edited(n, func(n *api.Note) { n.Xid.Num = 4 }),
			} {
				wantHeard(t, "P23.1: Hear of another", s, other, 1, 1, nil)
				wantHeard(t, "P23.1: Hear of another", s, other, other.Xid.Boot, other.Xid.Peer, nil)
			}
			for _, v := range edges() {
				if v != 1 {
					wantHeard(t, "P23.1: Hear with another boot", s, n, v, 1, nil)
					wantHeard(t, "P23.1: Hear with another boot", s, n, 1, v, nil)
				}
			}
			if n.Kind == api.MsgHave {
				wantHeard(t, "P23.1: Hear of another sum", s, edited(n, func(n *api.Note) { n.Sum ^= 1 << 31 }), 1, 1, nil)
				wantHeard(t, "P23.1: Hear of another sum", s, edited(n, func(n *api.Note) { n.Sum = 0 }), 1, 1, nil)
			}
			if n.Kind == api.MsgAck {
				wantHeard(t, "P23.1: Hear of another Total", s, edited(n, func(n *api.Note) { n.Total++ }), 1, 1, nil)
			}
		}
		for _, bad := range []struct {
			n      api.Note
			wanted error
		}{{api.Note{}, api.ErrKind}, {api.Note{Kind: 8, Part: 2, Xid: exampleXid()}, api.ErrKind}, {api.Note{Kind: api.MsgStarted, Part: 8, Xid: exampleXid()}, api.ErrRange}, {api.Note{Kind: api.MsgStarted, Part: 1}, api.ErrRange}} {
			next, counts, err := hear(t, examplePlan(), phased(t, phase), bad.n, 0, 0)
			wantBare(t, "P23.1: Hear", err, bad.wanted)
			wantSame(t, "P23.1: Hear", next, hand.Source{})
			if counts {
				t.Error("P23.1: Hear tells true beside an error")
			}
		}
	}
}

// TestShortImages: an image of fewer than four bytes has no sum that could be told.
func TestShortImages(t *testing.T) {
	for _, bytes := range []string{"", "\x00", "\x00\x00", "\x00\x00\x00", "\x01\x02\x03\x04", "\x05\x01\x02\x03\x84", "\x00\x00\x00\x00"} {
		s := phased(t, hand.Sending)
		if bytes == "" {
			continue
		}
		s.Send = start(t, 2, exampleXid(), api.ImageFull, []byte(bytes))
		for _, sum := range []uint32{0, 1, 0x0102, 0x04030201, 0x84030201, 0x01020304} {
			var change func(s *hand.Source)
			if len(bytes) >= 4 && sum == lastSum([]byte(bytes)) {
				change = func(s *hand.Source) { s.Have = true }
			}
			wantHeard(t, "P23.1: Hear", s, api.Note{Kind: api.MsgHave, Part: 2, Xid: exampleXid(), Stage: api.ImageFull, Sum: sum}, 1, 1, change)
		}
	}
}

// wantBound looks at what Bound answers without an error.
func wantBound(t *testing.T, what string, s hand.Source, a hand.At, source hand.Source, deed hand.Deed) {
	t.Helper()
	next, d, err := bound(t, examplePlan(), s, a)
	wantBare(t, what, err, nil)
	wantSame(t, what, next, source)
	wantSame(t, what, d, deed)
	if !hand.Good(examplePlan(), next) {
		t.Errorf("%s: what comes of it isn't in form", what)
	}
}

// wantNotBound looks for an error of Bound.
func wantNotBound(t *testing.T, what string, s hand.Source, a hand.At, wanted error, place int) {
	t.Helper()
	next, d, err := bound(t, examplePlan(), s, a)
	want(t, what, err, wanted, place)
	wantSame(t, what, next, hand.Source{})
	wantSame(t, what, d, hand.Deed{})
}

// TestBoundArguments: the boots and Tries at their edges, in each phase, ahead of the state and the image.
func TestBoundArguments(t *testing.T) {
	for _, phase := range allPhases() {
		for _, v := range edges() {
			if !isNumber(v) {
				wantNotBound(t, "P23.1: Bound: Own", phased(t, phase), hand.At{Own: v, Peer: 1, Tries: 3}, api.ErrArg, -1)
			}
			if !isNumber(v) && v != 0 {
				wantNotBound(t, "P23.1: Bound: Peer", phased(t, phase), hand.At{Own: 1, Peer: v, Tries: 3}, api.ErrArg, -1)
			}
			if v < 0 || v > 64 {
				wantNotBound(t, "P23.1: Bound: Tries", phased(t, phase), hand.At{Own: 1, Peer: 1, Tries: v, Image: []byte("x")}, api.ErrArg, -1)
			}
		}
	}
	for _, v := range []int{1, 2147483647} {
		wantBound(t, "P23.1: Bound in Idle", hand.Source{}, hand.At{Own: v, Peer: 2147483647 - v, Tries: 64, Image: []byte("x")}, hand.Source{}, hand.Deed{})
		wantBound(t, "P23.1: Bound in Idle", hand.Source{}, hand.At{Own: v, Tries: 0}, hand.Source{}, hand.Deed{})
	}
}

// abortedDeed: the Deed of an abort, by phase.
func abortedDeed(s hand.Source) hand.Deed {
	d := hand.Deed{Event: api.EventAborted, Notes: []api.Note{{Kind: api.MsgCancel, Part: 2, Xid: exampleXid()}}}
	switch s.Phase {
	case hand.Packing:
		d.Cancel = s.Taken
	case hand.Freezing:
		d.Cancel, d.Run, d.State = true, true, s.State
	case hand.Closing:
		d.Run, d.State = true, s.State
	}
	return d
}

// TestAborted: each reason in each phase, whatever else is due.
func TestAborted(t *testing.T) {
	full, diff := []byte(phased(t, hand.Sending).Send.Image), []byte(phased(t, hand.Closing).Send.Image)
	for _, phase := range []int{hand.Packing, hand.Sending, hand.Freezing, hand.Closing} {
		for _, taken := range []bool{true, phase != hand.Packing} {
			s := phased(t, phase)
			s.Taken = taken
			for _, have := range []bool{false, phase == hand.Sending || phase == hand.Closing} {
				s.Have = have
				for _, image := range [][]byte{nil, full, diff, []byte("no image")} {
					a := at(exampleState(9, 1), image)
					wantBound(t, "P23.1: abort asked", edited(s, func(s *hand.Source) { s.Abort = true }), a, hand.Source{}, abortedDeed(s))
					wantBound(t, "P23.1: another own boot", s, edited(a, func(a *hand.At) { a.Own = 2 }), hand.Source{}, abortedDeed(s))
					for _, peer := range []int{0, 2, 2147483647} {
						wantBound(t, "P23.1: another peer", s, edited(a, func(a *hand.At) { a.Peer = peer }), hand.Source{}, abortedDeed(s))
						wantBound(t, "P23.1: another peer, no state", s, hand.At{Own: 1, Peer: peer, Image: image}, hand.Source{}, abortedDeed(s))
					}
					if phase == hand.Sending || phase == hand.Closing {
						wantBound(t, "P23.1: refused", edited(s, func(s *hand.Source) { s.Refused = true }), a, hand.Source{}, abortedDeed(s))
					}
				}
			}
		}
	}
}

// TestTaking: the first boundary of Packing.
func TestTaking(t *testing.T) {
	s, err := hand.Begin(2, exampleXid())
	wantBare(t, "P23.1: Begin", err, nil)
	taken := phased(t, hand.Packing)
	for _, state := range []api.State{exampleState(1, 0), exampleState(5, 7), exampleState(0, api.MaxEpoch-1)} {
		deed := hand.Deed{Event: api.EventBegun, Job: api.ImageFull, Run: true, State: mark(t, examplePlan(), state)}
		wantBound(t, "P23.1: begun", s, at(state, nil), taken, deed)
		wantBound(t, "P23.1: begun, with an image", s, at(state, []byte("no image")), taken, deed)
	}
	wantNotBound(t, "P23.1: a state at its last epoch", s, at(exampleState(1, api.MaxEpoch), nil), api.ErrEnd, -1)
	wantNotBound(t, "P23.1: no state", s, at(api.State{}, nil), api.ErrState, 1)
	wantNotBound(t, "P23.1: a broken state", s, at(edited(exampleState(1, 0), func(s *api.State) { s.Ready = nil }), nil), api.ErrState, 7)
}

// wrongImages: what is no image of the other kind than that.
func wrongImages(t *testing.T, kind int) [][]byte {
	t.Helper()
	full, diff := []byte(phased(t, hand.Sending).Send.Image), []byte(phased(t, hand.Closing).Send.Image)
	right, wrong := full, diff
	if kind == api.ImageDelta {
		right, wrong = diff, full
	}
	l := [][]byte{wrong, []byte("no image"), make([]byte, 24), make([]byte, 4097), right[:len(right)-1], append(roomy(right), 0)}
	for i := range right {
		b := roomy(right)
		b[i] ^= 1
		l = append(l, b)
	}
	return l
}

// TestSendingOf: an image is packed, in Packing and in Freezing: it isn't ready, isn't one, or goes out.
func TestSendingOf(t *testing.T) {
	full, diff := []byte(phased(t, hand.Sending).Send.Image), []byte(phased(t, hand.Closing).Send.Image)
	for _, c := range []struct {
		phase, next, kind int
		image             []byte
	}{{hand.Packing, hand.Sending, api.ImageFull, full}, {hand.Freezing, hand.Closing, api.ImageDelta, diff}} {
		s, sent := phased(t, c.phase), phased(t, c.next)
		for _, state := range []api.State{{}, exampleState(2, 1)} {
			wantBound(t, "P23.1: not ready", s, at(state, nil), s, hand.Deed{})
			wantBound(t, "P23.1: not ready, no tries", s, hand.At{Own: 1, Peer: 1, Image: []byte{}}, s, hand.Deed{})
			for _, b := range wrongImages(t, c.kind) {
				wantNotBound(t, "P23.1: no such image", s, at(state, b), api.ErrArg, -1)
			}
			sent.Send.Rounds = 1
			for _, tries := range []int{1, 3, 64} {
				a := edited(at(state, c.image), func(a *hand.At) { a.Tries = tries })
				wantBound(t, "P23.1: sent", s, a, sent, hand.Deed{Notes: cut(t, 2, exampleXid(), c.kind, c.image)})
			}
			// In vain at once, and by then in the next phase: there is no job to be cancelled.
			a := edited(at(state, c.image), func(a *hand.At) { a.Tries = 0 })
			wantBound(t, "P23.1: no tries", s, a, hand.Source{}, abortedDeed(sent))
		}
		// What the image says isn't asked, as long as it is one of the kind.
		other, err := image.Look(c.image)
		wantBare(t, "image.Look", err, nil)
		recs, err := image.Records(c.image)
		wantBare(t, "image.Records", err, nil)
		b, err := image.Pack(c.kind, other.PlanSum+1, 77, recs)
		wantBare(t, "image.Pack", err, nil)
		next, d, err := bound(t, examplePlan(), s, at(api.State{}, b))
		wantBare(t, "P23.1: an image of another plan", err, nil)
		if next.Phase != c.next || len(d.Notes) == 0 || c.next == hand.Sending && next.Sum != lastSum(b) || c.next == hand.Closing && next.Sum != s.Sum {
			t.Errorf("P23.1: an image of another plan: %+v, %+v", next, d)
		}
	}
}

// TestRounds: in Sending and in Closing what isn't acknowledged goes out, till it was tried in vain.
func TestRounds(t *testing.T) {
	for _, phase := range []int{hand.Sending, hand.Closing} {
		s := phased(t, phase)
		notes := cut(t, 2, exampleXid(), s.Send.Stage, []byte(s.Send.Image))
		for rounds := range 70 {
			for tries := range 65 {
				s.Send.Rounds = rounds
				s.Send.Acked = []bool{tries%2 == 0, tries%3 == 0}
				var due []api.Note
				for i, n := range notes {
					if !s.Send.Acked[i] {
						due = append(due, n)
					}
				}
				a := hand.At{Own: 1, Peer: 1, Tries: tries, Image: []byte("not asked for")}
				if rounds >= tries {
					wantBound(t, "P23.1: tried in vain", s, a, hand.Source{}, abortedDeed(s))
					continue
				}
				wantBound(t, "P23.1: a round", s, a, edited(s, func(s *hand.Source) { s.Send.Rounds++ }), hand.Deed{Notes: due})
			}
		}
	}
}

// TestFreeze: HAVE for the full image was heard, also where all tries are used up.
func TestFreeze(t *testing.T) {
	s := phased(t, hand.Sending)
	s.Have, s.Send.Rounds = true, 3
	for _, state := range []api.State{exampleState(3, 1), exampleState(8, 0), exampleState(8, api.MaxEpoch)} {
		frozen := phased(t, hand.Freezing)
		frozen.State = state
		deed := hand.Deed{Event: api.EventFrozen, Job: api.ImageDelta, Base: s.Sum, Freeze: true, State: state}
		wantBound(t, "P23.1: frozen", s, at(state, nil), frozen, deed)
		wantBound(t, "P23.1: frozen, with an image", s, at(state, []byte("no image")), frozen, deed)
	}
	wantNotBound(t, "P23.1: no state", s, at(api.State{}, nil), api.ErrState, 1)
	wantNotBound(t, "P23.1: a broken state", s, at(edited(exampleState(1, 0), func(s *api.State) { s.Ready = nil }), nil), api.ErrState, 7)
}

// TestRelease: HAVE for the delta was heard; then COMMIT goes out till STARTED is heard, or the peer is another one.
func TestRelease(t *testing.T) {
	s := phased(t, hand.Closing)
	s.Have, s.Send.Rounds = true, 64
	released := phased(t, hand.Released)
	commit := []api.Note{{Kind: api.MsgCommit, Part: 2, Xid: exampleXid()}}
	for _, a := range []hand.At{at(api.State{}, nil), {Own: 1, Peer: 1, State: exampleState(4, 4), Image: []byte("no image")}} {
		wantBound(t, "P23.1: released", s, a, released, hand.Deed{Event: api.EventReleased, Notes: commit})
		wantBound(t, "P23.1: commit again", released, a, released, hand.Deed{Notes: commit})
		for _, started := range []bool{false, true} {
			of := edited(released, func(s *hand.Source) { s.Started = started })
			back := hand.Deed{Event: api.EventBack, Run: true, State: released.State}
			for _, peer := range []int{0, 2, 2147483647} {
				wantBound(t, "P23.1: back", of, edited(a, func(a *hand.At) { a.Peer = peer }), hand.Source{}, back)
			}
			wantBound(t, "P23.1: back", of, edited(a, func(a *hand.At) { a.Own = 2 }), hand.Source{}, back)
		}
		wantBound(t, "P23.1: over", edited(released, func(s *hand.Source) { s.Started = true }), a, hand.Source{}, hand.Deed{Event: api.EventOver})
	}
}

// TestSourceSend: a Send in form of something else isn't the Source's.
func TestSourceSend(t *testing.T) {
	for _, phase := range []int{hand.Sending, hand.Closing} {
		s := phased(t, phase)
		for _, x := range []xfer.Send{
			start(t, 3, exampleXid(), s.Send.Stage, []byte(s.Send.Image)), start(t, 2, api.Xid{Boot: 1, Peer: 1, Num: 4}, s.Send.Stage, []byte(s.Send.Image)),
			start(t, 2, exampleXid(), 3-s.Send.Stage, []byte(s.Send.Image)),
		} {
			wantJudged(t, examplePlan(), edited(s, func(s *hand.Source) { s.Send = x }))
		}
		// Any bytes may be sent, as far as the form goes.
		wantJudged(t, examplePlan(), edited(s, func(s *hand.Source) { s.Send = start(t, 2, exampleXid(), s.Send.Stage, []byte("x")) }))
	}
}
