package hand_test

import (
	"fmt"
	"math/rand"
	"testing"

	"ferry/api"
	"ferry/chunk"
	"ferry/hand"
	"ferry/xfer"
)

// wantEnough looks whether each of these came about often enough to say something.
func wantEnough(t *testing.T, seen map[string]int, least int, what ...string) {
	t.Helper()
	for _, w := range what {
		if seen[w] < least {
			t.Errorf("%s came about only %d times", w, seen[w])
		}
	}
}

// someSend: a Send in form, some of whose pieces are acknowledged.
func someSend(t *testing.T, r *rand.Rand, part int, x api.Xid, stage int) xfer.Send {
	t.Helper()
	s := start(t, part, x, stage, someBytes(r, one(r, 1, 3, 4, 5, 128, 129, 200, 300)))
	for i := range s.Acked {
		s.Acked[i] = coin(r)
	}
	s.Rounds = one(r, 0, 0, 1, 2, 64)
	return s
}

// someSource: a Source in form.
func someSource(t *testing.T, r *rand.Rand, p api.Plan) hand.Source {
	t.Helper()
	s := hand.Source{Phase: r.Intn(6), Part: r.Intn(8), Xid: someXid(r)}
	if s.Phase == hand.Idle {
		return hand.Source{}
	}
	s.Taken = s.Phase != hand.Packing || coin(r)
	s.Abort = s.Phase != hand.Released && seldom(r, 6)
	if s.Phase > hand.Packing {
		s.Sum = r.Uint32()
	}
	switch s.Phase {
	case hand.Sending, hand.Closing:
		s.Have, s.Refused = seldom(r, 3), seldom(r, 6)
		s.Send = someSend(t, r, s.Part, s.Xid, s.Phase/2)
	case hand.Released:
		s.Started = coin(r)
	}
	if s.Phase >= hand.Freezing {
		s.State = someState(t, r, p)
	}
	return s
}

// nearSource: a Source in form, of which one thing is put otherwise.
func nearSource(t *testing.T, r *rand.Rand, p api.Plan) hand.Source {
	t.Helper()
	s, o := someSource(t, r, p), someSource(t, r, p)
	switch r.Intn(12) {
	case 0:
		s.Phase = one(r, -1, 0, 1, 2, 3, 4, 5, 6)
	case 1:
		*one(r, &s.Part, &s.Xid.Boot, &s.Xid.Peer, &s.Xid.Num, &s.Send.Rounds, &s.Send.Stage, &s.Send.Part) = one(r, edges()...)
	case 2, 3:
		b := one(r, &s.Taken, &s.Abort, &s.Have, &s.Refused, &s.Started)
		*b = !*b
	case 4:
		s.Sum = o.Sum
	case 5:
		s.Send = o.Send
	case 6:
		s.Send, s.Part, s.Xid = o.Send, o.Part, o.Xid
	case 7:
		s.State = o.State
	case 8:
		if len(s.State.Procs) > 0 {
			s.State = broken(r, s.State)
		}
	case 9:
		s.Send.Acked = append(s.Send.Acked, true)
	}
	return s
}

// nearNote: of a kind that goes to the source, near to what it waits for.
func nearNote(r *rand.Rand, s hand.Source) api.Note {
	n := api.Note{Kind: one(r, api.MsgAck, api.MsgAck, api.MsgHave, api.MsgHave, api.MsgRefuse, api.MsgStarted, api.MsgCommit), Part: s.Part, Xid: s.Xid}
	switch n.Kind {
	case api.MsgAck:
		n.Stage, n.Total = max(1, s.Phase/2), max(1, len(s.Send.Acked))
		n.Index = r.Intn(n.Total)
	case api.MsgHave:
		n.Stage = max(1, s.Phase/2)
		if len(s.Send.Image) >= 4 {
			n.Sum = lastSum([]byte(s.Send.Image))
		}
	case api.MsgRefuse:
		n.Stage = max(1, s.Phase/2)
	}
	n.Stage = min(n.Stage, 2)
	switch r.Intn(16) {
	case 0:
		n.Part = r.Intn(9)
	case 1:
		n.Xid = someXid(r)
	case 2:
		n.Stage = r.Intn(4)
	case 3:
		n.Total++
	case 4:
		n.Sum ^= 1 << r.Intn(32)
	case 5:
		n.Kind = r.Intn(9)
	}
	return n
}

// someAt: a boundary of the Source.
func someAt(t *testing.T, r *rand.Rand, p api.Plan, s hand.Source) hand.At {
	t.Helper()
	a := hand.At{Own: s.Xid.Boot, Peer: s.Xid.Peer, Tries: one(r, 0, 1, 2, 3, 3, 64), State: someState(t, r, p), There: coin(r)}
	switch r.Intn(8) {
	case 0:
		a.State = broken(r, a.State)
	case 1:
		a.State.Epoch = api.MaxEpoch
	case 2:
		a.State = api.State{}
	}
	base := someMark(t, r, p)
	switch kind := r.Intn(6); {
	case kind == 0:
	case kind == 1 || kind < 5 && s.Phase == hand.Packing:
		a.Image = encode(t, p, base)
	case kind < 5:
		a.Image = makeDelta(t, p, writtenSince(t, r, p, base), r.Uint32())
	default:
		a.Image = someBytes(r, one(r, 1, 24, 200, 4097))
	}
	if len(a.Image) > 0 && seldom(r, 8) {
		a.Image = turned(r, a.Image)
	}
	if s.Phase == hand.Idle {
		a.Own, a.Peer = 1, r.Intn(2)
	}
	switch r.Intn(12) {
	case 0:
		a.Peer = one(r, 0, 1, 2, 2147483647)
	case 1:
		a.Own = one(r, 1, 2, 2147483647)
	case 2:
		*one(r, &a.Own, &a.Peer, &a.Tries) = one(r, edges()...)
	}
	return a
}

// TestSomeSources: P23.1, of any Sources in form and beside it: Good, Ask, Hear, Bound.
func TestSomeSources(t *testing.T) {
	r := rand.New(rand.NewSource(231))
	seen := map[string]int{}
	for range 4000 {
		p := somePlan(r)
		s := nearSource(t, r, p)
		wantJudged(t, p, s)
		if !isSource(p, s) {
			seen["not in form"]++
			continue
		}
		seen[fmt.Sprint("phase ", s.Phase)]++
		for range 3 {
			wantHeardAs(t, p, s, nearNote(r, s), one(r, s.Xid.Boot, s.Xid.Boot, s.Xid.Boot, 1), one(r, s.Xid.Peer, s.Xid.Peer, s.Xid.Peer, 0), seen)
			wantBoundAs(t, p, s, someAt(t, r, p, s), seen)
		}
	}
	wantEnough(t, seen, 100, "not in form", "phase 0", "phase 1", "phase 2", "phase 3", "phase 4", "phase 5")
	wantEnough(t, seen, 20, "heard 7 in 2", "heard 7 in 4", "heard 2 in 2", "heard 2 in 4", "heard 3 in 2", "heard 3 in 4", "heard 5 in 5")
	wantEnough(t, seen, 20, "error 12 in 0", "error 12 in 1", "error 9 in 1", "error 13 in 1", "error 9 in 2", "error 12 in 3")
	wantEnough(t, seen, 20, "1 to 0, 6", "1 to 1, 1", "1 to 1, 0", "1 to 2, 0", "2 to 0, 6", "2 to 3, 2", "2 to 2, 0", "3 to 0, 6", "3 to 3, 0", "3 to 4, 0", "4 to 0, 6", "4 to 5, 3", "4 to 4, 0", "5 to 0, 7", "5 to 0, 5", "5 to 5, 0")
}

// wantHeardAs holds Hear against the second reading.
func wantHeardAs(t *testing.T, p api.Plan, s hand.Source, n api.Note, own, peer int, seen map[string]int) {
	t.Helper()
	got, counts, err := hear(t, p, s, n, own, peer)
	wanted, is, wantErr := hearOf(s, n, own, peer)
	wantBare(t, "P23.1: Hear", err, wantErr)
	wantSame(t, "P23.1: Hear", got, wanted)
	if counts != is || err == nil && !hand.Good(p, got) {
		t.Errorf("P23.1: Hear tells %v, want %v, and the Source is in form: %v", counts, is, hand.Good(p, got))
	}
	if t.Failed() {
		t.Fatalf("Hear of %v, boots %d and %d, %+v", n, own, peer, s)
	}
	if is {
		seen[fmt.Sprintf("heard %d in %d", n.Kind, s.Phase)]++
	}
}

// wantBoundAs holds Bound against the second reading.
func wantBoundAs(t *testing.T, p api.Plan, s hand.Source, a hand.At, seen map[string]int) {
	t.Helper()
	got, d, err := bound(t, p, s, a)
	wanted, deed, wantErr := boundOf(p, s, a)
	want(t, "P23.1: Bound", err, wantErr, api.Place(wantErr))
	wantSame(t, "P23.1: Bound", got, wanted)
	wantSame(t, "P23.1: Bound", d, deed)
	if err == nil && !hand.Good(p, got) {
		t.Errorf("P23.1: what Bound answers isn't in form: %+v", got)
	}
	for _, n := range d.Notes {
		wantBare(t, "P23.1: a note of Bound's is in form", chunk.Check(n), nil)
	}
	if t.Failed() {
		t.Fatalf("Bound of %+v at %+v", s, a)
	}
	if err != nil {
		seen[fmt.Sprintf("error %d in %d", api.Code(err), s.Phase)]++
		return
	}
	seen[fmt.Sprintf("%d to %d, %d", s.Phase, got.Phase, d.Event)]++
}

// scene is a Spare, and a note that comes to it.
type scene struct {
	p         api.Plan
	part, own int
	s         hand.Spare
	n         api.Note
	mine      bool
}

// someSpare: a Spare in form that holds something or not, and knows something of a migration or not.
func someSpare(t *testing.T, r *rand.Rand, p api.Plan, own int) hand.Spare {
	t.Helper()
	s := hand.Spare{Peer: one(r, 0, 1, 1, 1, 1, 2147483647)}
	if s.Peer != 0 {
		s.Top, s.Closed = one(r, 0, 2, 4, 4, 4, 2147483647), seldom(r, 4)
		s.Begun = one(r, 0, 0, min(2, s.Top), s.Top)
	}
	s.Held = r.Intn(3)
	if s.Held == 0 {
		return s
	}
	s.Xid = api.Xid{Boot: max(1, s.Peer), Peer: own, Num: max(1, s.Top)}
	if seldom(r, 4) {
		s.Xid = someXid(r)
	}
	s.Full, s.State = r.Uint32(), someMark(t, r, p)
	if coin(r) {
		s.Full = lastSum(encode(t, p, s.State))
	}
	if seldom(r, 8) {
		s.State = someState(t, r, p)
	}
	if s.Held == api.ImageDelta {
		s.Delta = r.Uint32()
		s.Commit = !s.Closed && s.Xid.Num == s.Top && s.Xid.Boot == s.Peer && coin(r)
	}
	return s
}

// someImage: the bytes that come: an image that fits, or near to one.
func someImage(t *testing.T, r *rand.Rand, p api.Plan, s hand.Spare, stage int) []byte {
	t.Helper()
	var b []byte
	switch {
	case seldom(r, 8):
		return someBytes(r, one(r, 1, 24, 200, 4096))
	case stage == api.ImageDelta && s.Held != 0 && !seldom(r, 8):
		b = makeDelta(t, p, writtenSince(t, r, p, s.State), s.Full)
	case stage == api.ImageDelta:
		b = makeDelta(t, p, someState(t, r, p), one(r, s.Full, r.Uint32()))
	case seldom(r, 8):
		p.Id ^= 1
		b = encode(t, p, edited(someState(t, r, p), func(s *api.State) { s.Id = p.Id }))
	default:
		b = encode(t, p, someState(t, r, p))
	}
	if seldom(r, 8) {
		b = turned(r, b)
	}
	return b
}

// someScene: pieces have come, and one more comes; or another note.
func someScene(t *testing.T, r *rand.Rand) scene {
	t.Helper()
	x := scene{p: somePlan(r), part: r.Intn(8), own: one(r, 1, 1, 2, 2147483647), mine: seldom(r, 10)}
	x.s = someSpare(t, r, x.p, x.own)
	xid := api.Xid{Boot: max(1, x.s.Peer), Peer: x.own, Num: max(1, x.s.Top)}
	stage := one(r, 1, 2)
	l := cut(t, x.part, xid, stage, someImage(t, r, x.p, x.s, stage))
	x.n = one(r, l...)
	if !x.s.Closed && x.s.Top > 0 && !seldom(r, 6) {
		all := coin(r)
		for _, n := range l {
			if n.Index != x.n.Index && (all || coin(r)) || seldom(r, 40) {
				if seldom(r, 40) {
					n.Data = string(turned(r, []byte(n.Data)))
				}
				// A piece that came with other bytes is refused, which is no matter here.
				if v, _, err := xfer.Take(x.s.Recv, n); err == nil {
					x.s.Recv = v
				}
			}
		}
	}
	switch r.Intn(14) {
	case 0, 1:
		x.n = api.Note{Kind: api.MsgCommit, Part: x.part, Xid: xid}
		x.n.Xid.Num = max(1, one(r, xid.Num, x.s.Begun))
	case 2, 3:
		x.n = api.Note{Kind: api.MsgCancel, Part: x.part, Xid: xid}
	case 4:
		x.n = api.Note{Kind: one(r, api.MsgStarted, api.MsgAck, api.MsgHave), Part: x.part, Xid: xid}
	}
	switch r.Intn(14) {
	case 0:
		x.n.Part = r.Intn(9)
	case 1:
		*one(r, &x.n.Xid.Boot, &x.n.Xid.Peer) = one(r, 1, 2, 2147483647)
	case 2, 3:
		x.n.Xid.Num = one(r, 1, 2, 3, 4, 5, 2147483647)
	case 4:
		*one(r, &x.part, &x.own, &x.n.Kind, &x.n.Stage) = one(r, edges()...)
	}
	return x
}

// nearSpare: the Spare, of which one thing is put otherwise now and then.
func nearSpare(t *testing.T, r *rand.Rand, x scene) hand.Spare {
	t.Helper()
	s, o := x.s, someScene(t, r).s
	switch r.Intn(24) {
	case 0:
		*one(r, &s.Peer, &s.Top, &s.Begun, &s.Held, &s.Xid.Boot, &s.Xid.Peer, &s.Xid.Num) = one(r, edges()...)
	case 1:
		b := one(r, &s.Closed, &s.Commit, &s.Recv.On)
		*b = !*b
	case 2:
		s.Recv = o.Recv
	case 3:
		s.Xid = o.Xid
	case 4:
		s.State = o.State
	case 5:
		*one(r, &s.Full, &s.Delta) = r.Uint32()
	case 6:
		s.Held = o.Held
	case 7:
		if len(s.State.Procs) > 0 {
			s.State = broken(r, s.State)
		}
	case 8:
		s.Peer, s.Top, s.Begun, s.Closed = o.Peer, o.Top, o.Begun, o.Closed
	}
	return s
}

// TestSomeSpares: P23.2, of any Spares in form and beside it: Fit, Catch, Turn.
func TestSomeSpares(t *testing.T) {
	r := rand.New(rand.NewSource(232))
	seen := map[string]int{}
	for range 12000 {
		x := someScene(t, r)
		x.s = nearSpare(t, r, x)
		wantFit(t, x.p, x.s)
		if !isSpare(x.p, x.s) {
			seen["not in form"]++
			continue
		}
		wantCaughtAs(t, x, seen)
		a := hand.At{Own: x.own, Peer: one(r, x.s.Peer, x.s.Peer, 0, 1, 2), There: coin(r)}
		if seldom(r, 12) {
			*one(r, &x.part, &a.Own, &a.Peer) = one(r, edges()...)
		}
		wantTurnedAs(t, x, a, seen)
	}
	wantEnough(t, seen, 500, "not in form")
	wantEnough(t, seen, 20, "error 4", "error 7", "error 12", "turn 12")
	wantEnough(t, seen, 20, "[1]: []", "[1]: [7]", "[1]: [7 2]", "[1]: [7 3]", "[4]: []", "[4]: [5]", "[6]: []", "held 0 to 1", "held 1 to 2", "held 2 to 1", "held 1 to 0", "committed", "closed", "Top rises")
	wantEnough(t, seen, 20, "turn 4, 1 notes, true", "turn 4, 1 notes, false", "turn 8, 0 notes, false", "turn 0, 1 notes, true", "turn 0, 0 notes, true", "turn 0, 0 notes, false")
}

// wantCaughtAs holds Catch against the second reading.
func wantCaughtAs(t *testing.T, x scene, seen map[string]int) {
	t.Helper()
	got, l, err := catch(t, x.p, x.part, x.s, x.n, x.own, x.mine)
	var wanted hand.Spare
	var answers []api.Note
	wantErr := chunk.Check(x.n)
	if x.part < 0 || x.part > 7 || !isNumber(x.own) {
		wantErr = api.ErrArg
	}
	if wantErr == nil {
		m := &spare{Spare: x.s, p: x.p, part: x.part, own: x.own}
		answers = m.catch(x.n, x.mine)
		wanted = m.Spare
	}
	wantBare(t, "P23.2: Catch", err, wantErr)
	wantSame(t, "P23.2: Catch", l, answers)
	wantSame(t, "P23.2: Catch", got, wanted)
	if err == nil && !hand.Fit(x.p, got) {
		t.Errorf("P23.2: what Catch answers isn't in form: %+v", got)
	}
	var kinds []int
	for _, n := range l {
		wantBare(t, "P23.2: an answer is in form", chunk.Check(n), nil)
		kinds = append(kinds, n.Kind)
	}
	if t.Failed() {
		t.Fatalf("Catch of %v, partition %d, boot %d, mine %v, %+v", x.n, x.part, x.own, x.mine, x.s)
	}
	if err != nil {
		seen[fmt.Sprint("error ", api.Code(err))]++
		return
	}
	seen[fmt.Sprintf("[%d]: %v", x.n.Kind, kinds)]++
	seen[fmt.Sprintf("held %d to %d", x.s.Held, got.Held)]++
	for what, is := range map[string]bool{"committed": got.Commit && !x.s.Commit, "closed": got.Closed && !x.s.Closed, "Top rises": got.Top > x.s.Top} {
		if is {
			seen[what]++
		}
	}
}

// wantTurnedAs holds Turn against the second reading.
func wantTurnedAs(t *testing.T, x scene, a hand.At, seen map[string]int) {
	t.Helper()
	got, d, err := turn(t, x.p, x.part, x.s, a)
	var wanted hand.Spare
	var deed hand.Deed
	wantErr := error(nil)
	if x.part < 0 || x.part > 7 || !isNumber(a.Own) || a.Peer != 0 && !isNumber(a.Peer) {
		wantErr = api.ErrArg
	} else {
		m := &spare{Spare: x.s, p: x.p, part: x.part, own: a.Own}
		deed = m.turn(a)
		wanted = m.Spare
	}
	wantBare(t, "P23.2: Turn", err, wantErr)
	wantSame(t, "P23.2: Turn", d, deed)
	wantSame(t, "P23.2: Turn", got, wanted)
	if err == nil && !hand.Fit(x.p, got) {
		t.Errorf("P23.2: what Turn answers isn't in form: %+v", got)
	}
	for _, n := range d.Notes {
		wantBare(t, "P23.2: a note of Turn's is in form", chunk.Check(n), nil)
	}
	if t.Failed() {
		t.Fatalf("Turn of partition %d at %+v, %+v", x.part, a, x.s)
	}
	if err != nil {
		seen[fmt.Sprint("turn ", api.Code(err))]++
		return
	}
	seen[fmt.Sprintf("turn %d, %d notes, %v", d.Event, len(d.Notes), a.Peer == x.s.Peer)]++
}

// TestNothingKept: the same calls answer the same, whatever becomes of what was handed in.
func TestNothingKept(t *testing.T) {
	r := rand.New(rand.NewSource(233))
	for range 200 {
		p := somePlan(r)
		s := someSource(t, r, p)
		a := someAt(t, r, p, s)
		handed, at := roomy(s), roomy(a)
		next, d, err := hand.Bound(p, handed, at)
		clear(handed.Send.Acked)
		clear(handed.State.Pages)
		clear(handed.State.Procs)
		clear(at.Image)
		clear(at.State.Pages)
		clear(at.State.Procs)
		again, same, errAgain := hand.Bound(p, s, a)
		want(t, "R4: Bound", err, errAgain, api.Place(errAgain))
		wantSame(t, "P23.6: Bound", next, again)
		wantSame(t, "P23.6: Bound", d, same)
	}
}
