package xfer_test

import (
	"fmt"
	"math/rand"
	"slices"
	"testing"

	"ferry/api"
	"ferry/chunk"
	"ferry/xfer"
)

// nearNote: a chunk or an acknowledgement of that transfer, or a note near to it, in or out of form.
func nearNote(r *rand.Rand, part int, x api.Xid, stage, total int) api.Note {
	n := api.Note{Kind: one(r, api.MsgChunk, api.MsgAck), Part: part, Xid: x, Stage: stage, Total: total}
	n.Index = one(r, 0, 1, total-1, r.Intn(max(1, min(total, 40))))
	if n.Kind == api.MsgChunk {
		n.Data = fill(128, one[byte](r, 'a', 'a', 'a', 'b'))
		if n.Index == total-1 {
			n.Data = n.Data[:one(r, 1, 44, 128)]
		}
	}
	switch r.Intn(12) {
	case 0:
		n.Part = one(r, 0, 2, 7, 8)
	case 1:
		n.Xid = someXid(r)
	case 2:
		n.Stage = one(r, 0, 1, 2)
	case 3:
		n.Total = one(r, 1, 2, 3, 32, 33)
	case 4:
		n.Kind = r.Intn(9)
	case 5:
		n = api.Note{Kind: 2 + r.Intn(5), Part: part, Xid: x}
	case 6:
		n.Data = fill(one(r, 0, 1, 127, 128, 129), 'a')
	}
	return n
}

// ackOfModel: what Ack is to answer.
func ackOfModel(s xfer.Send, n api.Note) (xfer.Send, bool, error) {
	if !isSend(s) {
		return xfer.Send{}, false, api.ErrState
	}
	if err := chunk.Check(n); err != nil {
		return xfer.Send{}, false, err
	}
	if n.Kind != 7 {
		return xfer.Send{}, false, api.ErrKind
	}
	// The acknowledgements that the pieces ask for are all that there are.
	for i := range s.Acked {
		if (n == api.Note{Kind: 7, Part: s.Part, Xid: s.Xid, Stage: s.Stage, Index: i, Total: (len(s.Image) + 127) / 128}) {
			was := s.Acked[i]
			s.Acked = slices.Concat(s.Acked[:i], []bool{true}, s.Acked[i+1:])
			return s, !was, nil
		}
	}
	return xfer.Send{}, false, api.ErrBase
}

// takeOfModel: what Take is to answer.
func takeOfModel(r xfer.Recv, n api.Note) (xfer.Recv, error) {
	if !isRecv(r) {
		return xfer.Recv{}, api.ErrState
	}
	if err := chunk.Check(n); err != nil {
		return xfer.Recv{}, err
	}
	if n.Kind != 1 {
		return xfer.Recv{}, api.ErrKind
	}
	s := chunk.Stage{Part: n.Part, Stage: n.Stage, Total: n.Total, Xid: n.Xid, Pieces: make([]string, n.Total)}
	if was := r.Stage; r.On && was.Part == n.Part && was.Xid == n.Xid && was.Stage == n.Stage && was.Total == n.Total {
		copy(s.Pieces, was.Pieces)
	}
	if was := s.Pieces[n.Index]; was != "" && was != n.Data {
		return xfer.Recv{}, api.ErrBusy
	}
	s.Pieces[n.Index] = n.Data
	return xfer.Recv{On: true, Stage: s}, nil
}

// TestSomeSends: P22.1, of any Sends and notes, in form and beside it.
func TestSomeSends(t *testing.T) {
	r := rand.New(rand.NewSource(221))
	seen := map[string]int{}
	for range 30000 {
		s := someSend(r)
		wantSendJudged(t, s)
		n := nearNote(r, s.Part, s.Xid, s.Stage, len(s.Acked))
		want, fresh, wanted := ackOfModel(s, n)
		got, is, err := xfer.Ack(s, n)
		what := fmt.Sprintf("P22.1: Ack of %v", n)
		wantBare(t, what, err, wanted)
		wantSend(t, what, got, want)
		if is != fresh {
			t.Errorf("%s tells %v", what, is)
		}
		seen[fmt.Sprint(api.Code(wanted), fresh)]++
		if t.Failed() {
			t.FailNow()
		}
	}
	for _, what := range []string{"0 true", "0 false", "4 false", "7 false", "9 false", "10 false"} {
		if seen[what] < 300 {
			t.Errorf("%s came about only %d times", what, seen[what])
		}
	}
}

// TestSomeRecvs: P22.2, of any Recvs and notes, in form and beside it.
func TestSomeRecvs(t *testing.T) {
	r := rand.New(rand.NewSource(222))
	seen := map[string]int{}
	for range 30000 {
		v := someRecv(r)
		wantRecvJudged(t, v)
		s := v.Stage
		n := nearNote(r, s.Part, s.Xid, s.Stage, s.Total)
		if !v.On {
			n = nearNote(r, 2, exampleXid(), 1, one(r, 1, 3))
		}
		want, wanted := takeOfModel(v, n)
		got, ack, err := xfer.Take(v, n)
		what := fmt.Sprintf("P22.2: Take of %v", n)
		wantBare(t, what, err, wanted)
		wantRecv(t, what, got, want)
		wantAck := api.Note{}
		if wanted == nil {
			wantAck = ackOf(n)
			wantLooked(t, got, seen)
		}
		if ack != wantAck {
			t.Errorf("%s answers %v", what, ack)
		}
		seen[fmt.Sprint(api.Code(wanted), v.On)]++
		if t.Failed() {
			t.FailNow()
		}
	}
	for _, what := range []string{"0 true", "0 false", "4 true", "7 true", "9 true", "9 false", "14 true", "whole", "not whole"} {
		if seen[what] < 300 {
			t.Errorf("%s came about only %d times", what, seen[what])
		}
	}
}

// wantLooked holds Whole against the pieces of a Recv in form.
func wantLooked(t *testing.T, r xfer.Recv, seen map[string]int) {
	t.Helper()
	if !isRecv(r) {
		t.Errorf("P22.2: what Take answers isn't in form: %v", r)
	}
	var image []byte
	for _, piece := range r.Stage.Pieces {
		if piece == "" {
			wantWhole(t, r, nil)
			seen["not whole"]++
			return
		}
		image = append(image, piece...)
	}
	wantWhole(t, r, image)
	seen["whole"]++
}

// TestAllOrders: P22.3, of every row of up to six pieces of an image of one to three, and what was there before it.
func TestAllOrders(t *testing.T) {
	for total := 1; total <= 3; total++ {
		image := counting(128*total - 9)
		s := start(t, 2, exampleXid(), 1, image)
		notes := due(t, s)
		other := edited(notes[0], func(n *api.Note) { n.Xid.Num = 1 })
		var follow func(r xfer.Recv, came, depth int)
		follow = func(r xfer.Recv, came, depth int) {
			if came == 1<<total-1 {
				wantWhole(t, r, image)
			} else if came > 0 {
				wantWhole(t, r, nil)
			}
			for i, n := range notes {
				if depth < 6 {
					follow(wantTaken(t, r, n), came|1<<i, depth+1)
				}
			}
		}
		follow(xfer.Recv{}, 0, 0)
		follow(wantTaken(t, xfer.Recv{}, other), 0, 3)
	}
}

// play is a Send and a Recv, and the notes under way between them.
type play struct {
	t     *testing.T
	r     *rand.Rand
	image []byte
	send  xfer.Send
	recv  xfer.Recv
	under []api.Note
	came  map[int]int // how often each piece was taken
	acks  map[int]int // how often each acknowledgement was heard
}

func newPlay(t *testing.T, r *rand.Rand, image []byte) *play {
	t.Helper()
	return &play{t: t, r: r, image: image, send: start(t, r.Intn(8), someXid(r), 1+r.Intn(2), image), came: map[int]int{}, acks: map[int]int{}}
}

// round: a boundary. What was acknowledged isn't sent again.
func (p *play) round(tries int) bool {
	p.t.Helper()
	s, notes, on, err := xfer.Round(p.send, tries)
	wantBare(p.t, "P22.1: Round", err, nil)
	for _, n := range notes {
		if p.acks[n.Index] > 0 {
			p.t.Errorf("P22.4: piece %d was acknowledged and is sent again", n.Index)
		}
	}
	if on && len(notes)+len(p.acks) != (len(p.image)+127)/128 {
		p.t.Errorf("P22.4: %d pieces are sent, %d are acknowledged", len(notes), len(p.acks))
	}
	p.send = s
	p.under = append(p.under, notes...)
	return on
}

// deliver: a note under way comes, and is gone.
func (p *play) deliver(i int) {
	p.t.Helper()
	n := p.under[i]
	p.under = slices.Delete(p.under, i, i+1)
	if n.Kind == api.MsgAck {
		p.send = wantAcked(p.t, p.send, n, p.acks[n.Index] == 0)
		p.acks[n.Index]++
	} else {
		next, ack, err := xfer.Take(p.recv, n)
		wantBare(p.t, "P22.2: Take", err, nil)
		p.recv, p.under = next, append(p.under, ack)
		p.came[n.Index]++
	}
	p.look()
}

// look: the whole is there just if each piece was taken; it has arrived just if each was acknowledged, so only behind that.
func (p *play) look() {
	p.t.Helper()
	total := (len(p.image) + 127) / 128
	if len(p.came) == total {
		wantWhole(p.t, p.recv, p.image)
	} else {
		wantWhole(p.t, p.recv, nil)
	}
	wantArrived(p.t, p.send, len(p.acks) == total)
	if len(p.acks) == total && len(p.came) < total {
		p.t.Error("P22.4: it has arrived, and the other side hasn't the whole")
	}
}

// TestPlays: P22.3 and P22.4, over a link that loses, doubles and reorders.
func TestPlays(t *testing.T) {
	r := rand.New(rand.NewSource(223))
	arrived := 0
	for range 400 {
		p := newPlay(t, r, someBytes(r, one(r, 1, 128, 129, 4096, 1+r.Intn(4096))))
		tries := 1 + r.Intn(12)
		loss := r.Intn(4)
		rounds := 0
		for p.round(tries) {
			rounds++
			for range len(p.under) * 3 {
				if len(p.under) == 0 {
					break
				}
				i := r.Intn(len(p.under))
				switch k := r.Intn(8); {
				case k < loss:
					p.under = slices.Delete(p.under, i, i+1)
				case k == 4:
					p.under = append(p.under, p.under[i])
				default:
					p.deliver(i)
				}
			}
		}
		if rounds != tries {
			t.Errorf("P22.1: %d rounds of %d", rounds, tries)
		}
		if len(p.acks) == (len(p.image)+127)/128 {
			arrived++
		}
		if t.Failed() {
			t.FailNow()
		}
	}
	if arrived < 100 || arrived > 350 {
		t.Errorf("%d of 400 have arrived", arrived)
	}
}

// TestArrives: P22.4: it has arrived where in some tries rounds each piece, and each acknowledgement of it, comes through once at least.
func TestArrives(t *testing.T) {
	r := rand.New(rand.NewSource(224))
	for range 300 {
		p := newPlay(t, r, someBytes(r, 1+r.Intn(4096)))
		tries := 1 + r.Intn(6)
		through := make([]int, (len(p.image)+127)/128)
		for i := range through {
			through[i] = 1 + r.Intn(tries)
		}
		for round := 1; round <= tries; round++ {
			if !p.round(tries) {
				t.Fatalf("P22.1: round %d of %d is in vain", round, tries)
			}
			// All that isn't to come through in this round is lost.
			p.under = slices.DeleteFunc(p.under, func(n api.Note) bool { return through[n.Index] != round })
			for len(p.under) > 0 {
				p.deliver(r.Intn(len(p.under)))
			}
		}
		wantArrived(t, p.send, true)
		wantWhole(t, p.recv, p.image)
		if p.round(tries) {
			t.Error("P22.1: one round more than tries")
		}
	}
}
