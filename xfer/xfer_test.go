package xfer_test

import (
	"fmt"
	"math"
	"slices"
	"testing"

	"ferry/api"
	"ferry/chunk"
	"ferry/xfer"
)

// TestExampleSends: the examples 1 to 3.
func TestExampleSends(t *testing.T) {
	s := exampleSend(t)
	wantSend(t, "P22.1: Start", s, xfer.Send{Part: 2, Xid: exampleXid(), Stage: api.ImageFull, Image: string(exampleImage()), Acked: make([]bool, 3)})
	for i, n := range due(t, s) {
		want := api.Note{Kind: api.MsgChunk, Part: 2, Xid: exampleXid(), Stage: api.ImageFull, Index: i, Total: 3, Data: string(exampleImage()[128*i : min(128*i+128, 300)])}
		if n != want {
			t.Errorf("P22.1: Due: piece %d is %v, want %v", i, n, want)
		}
	}
	wantInVain(t, s, 0)
	s = wantRound(t, s, 2, 0, 1, 2)
	ack := api.Note{Kind: api.MsgAck, Part: 2, Xid: exampleXid(), Stage: api.ImageFull, Index: 1, Total: 3}
	s = wantAcked(t, s, ack, true)
	wantSend(t, "P22.1: Ack again", wantAcked(t, s, ack, false), s)
	s = wantRound(t, s, 2, 0, 2)
	wantInVain(t, s, 2)
	for _, edit := range []func(n *api.Note){func(n *api.Note) { n.Total = 4 }, func(n *api.Note) { n.Xid.Num = 4 }, func(n *api.Note) { n.Stage = api.ImageDelta }} {
		wantNotAcked(t, "P22.1: of another transfer", s, edited(ack, edit), api.ErrBase)
	}
	wantNotAcked(t, "P22.1: a chunk", s, due(t, s)[0], api.ErrKind)
	wantNotAcked(t, "P22.1: piece 3 of 3", s, edited(ack, func(n *api.Note) { n.Index = 3 }), api.ErrRange)
	for _, i := range []int{0, 2} {
		wantArrived(t, s, false)
		s = wantAcked(t, s, edited(ack, func(n *api.Note) { n.Index = i }), true)
	}
	wantArrived(t, s, true)
	if l := due(t, s); len(l) > 0 {
		t.Errorf("P22.1: Due of what has arrived: %v", l)
	}
	// A round without notes counts all the same.
	s = wantRound(t, s, 4)
	wantInVain(t, wantRound(t, s, 4), 4)
}

// TestExampleTakes: the examples 4 and 5.
func TestExampleTakes(t *testing.T) {
	l := due(t, exampleSend(t))
	r := wantTaken(t, xfer.Recv{}, l[1])
	wantRecv(t, "P22.2: Take", r, xfer.Recv{On: true, Stage: chunk.Stage{Part: 2, Stage: 1, Total: 3, Xid: exampleXid(), Pieces: []string{"", l[1].Data, ""}}})
	wantRecv(t, "P22.2: Take again", wantTaken(t, r, l[1]), r)
	wantNotTaken(t, "P22.2: other bytes", r, edited(l[1], func(n *api.Note) { n.Data = fill(128, 'z') }), api.ErrBusy)
	wantWhole(t, r, nil)
	wantWhole(t, xfer.Recv{}, nil)
	r = wantTaken(t, r, l[0])
	wantWhole(t, r, nil)
	r = wantTaken(t, r, l[2])
	wantWhole(t, r, exampleImage())
	wantNotTaken(t, "P22.2: other bytes of what is whole", r, edited(l[2], func(n *api.Note) { n.Data += "z" }), api.ErrBusy)
	next := edited(l[1], func(n *api.Note) { n.Xid.Num = 4 })
	wantRecv(t, "P22.2: Take of another migration", wantTaken(t, r, next), wantTaken(t, xfer.Recv{}, next))
}

// TestExampleForm: the example 6.
func TestExampleForm(t *testing.T) {
	s := exampleSend(t)
	s.Acked = s.Acked[:2]
	wantSendJudged(t, s)
	wantRecvJudged(t, xfer.Recv{On: true})
	wantRecvJudged(t, xfer.Recv{On: true, Stage: chunk.Stage{Part: 2, Stage: 1, Total: 3, Xid: exampleXid(), Pieces: make([]string, 3)}})
}

// TestStart: images of every length, and every stage and partition.
func TestStart(t *testing.T) {
	image := counting(4096)
	most := api.Xid{Boot: 2147483647, Peer: 2147483647, Num: 2147483647}
	for size := 1; size <= 4096; size++ {
		part, stage := size%8, 1+size%2
		s := start(t, part, most, stage, image[:size])
		wantSend(t, "P22.1: Start", s, xfer.Send{Part: part, Xid: most, Stage: stage, Image: string(image[:size]), Acked: make([]bool, (size+127)/128)})
		if !xfer.Good(s) {
			t.Errorf("P22.1: Start of %d bytes isn't in form", size)
		}
	}
}

// TestStartRefuses: arguments ahead of the size.
func TestStartRefuses(t *testing.T) {
	refuse := func(part int, x api.Xid, stage int, image []byte, want error) {
		t.Helper()
		s, err := xfer.Start(part, x, stage, image)
		what := fmt.Sprintf("P22.1: Start(%d, %v, %d) of %d bytes", part, x, stage, len(image))
		wantBare(t, what, err, want)
		wantSend(t, what, s, xfer.Send{})
	}
	for _, image := range [][]byte{nil, {}, make([]byte, 4097), make([]byte, 1<<20)} {
		refuse(2, exampleXid(), 1, image, api.ErrSize)
	}
	for _, image := range [][]byte{nil, counting(300), make([]byte, 4097)} {
		for _, v := range edges() {
			if v < 0 || v > 7 {
				refuse(v, exampleXid(), 1, image, api.ErrArg)
			}
			if v != 1 && v != 2 {
				refuse(2, exampleXid(), v, image, api.ErrArg)
			}
			if v < 1 || v > 2147483647 {
				refuse(2, api.Xid{Boot: v, Peer: 3, Num: 2}, 1, image, api.ErrArg)
				refuse(2, api.Xid{Boot: 1, Peer: v, Num: 2}, 1, image, api.ErrArg)
				refuse(2, api.Xid{Boot: 1, Peer: 3, Num: v}, 1, image, api.ErrArg)
			}
		}
	}
}

// anyNotes: in form of several kinds, and not in form.
func anyNotes() []api.Note {
	x := exampleXid()
	return []api.Note{
		{}, {Kind: 8, Part: 2, Xid: x}, {Kind: api.MsgChunk, Part: 2, Xid: x, Stage: 1, Total: 1}, {Kind: api.MsgChunk, Part: 2, Xid: x, Stage: 1, Total: 1, Data: "x"},
		{Kind: api.MsgAck, Part: 2, Xid: x, Stage: 1, Total: 3}, {Kind: api.MsgAck, Part: 9, Xid: x, Stage: 1, Total: 3}, {Kind: api.MsgCommit, Part: 2, Xid: x},
	}
}

// wantSendJudged holds Good, and the calls that ask for the form first, against the second reading.
func wantSendJudged(t *testing.T, s xfer.Send) {
	t.Helper()
	want := isSend(s)
	if xfer.Good(s) != want {
		t.Errorf("P22.1: Good is %v of %v", !want, s)
	}
	wanted := error(nil)
	if !want {
		wanted = api.ErrState
	}
	notes, err := xfer.Due(s)
	wantBare(t, "P22.1: Due", err, wanted)
	is, err := xfer.Arrived(s)
	wantBare(t, "P22.1: Arrived", err, wanted)
	if !want && (len(notes) > 0 || is) {
		t.Errorf("P22.1: Due = %v and Arrived = %v beside an error", notes, is)
	}
	for _, tries := range edges() {
		next, notes, on, err := xfer.Round(s, tries)
		wantBare(t, "P22.1: Round", err, wanted)
		if !want {
			wantSend(t, "P22.1: Round beside an error", next, xfer.Send{})
		}
		if !want && (len(notes) > 0 || on) {
			t.Errorf("P22.1: Round = %v, %v beside an error", notes, on)
		}
	}
	for _, n := range anyNotes() {
		if !want {
			wantNotAcked(t, "P22.1: a Send that isn't in form", s, n, api.ErrState)
		}
	}
}

// TestSendForm: each field of a Send at its edges.
func TestSendForm(t *testing.T) {
	s := exampleSend(t)
	wantSendJudged(t, s)
	wantSendJudged(t, xfer.Send{})
	for _, v := range edges() {
		for _, edit := range []func(s *xfer.Send){
			func(s *xfer.Send) { s.Part = v }, func(s *xfer.Send) { s.Stage = v }, func(s *xfer.Send) { s.Rounds = v },
			func(s *xfer.Send) { s.Xid.Boot = v }, func(s *xfer.Send) { s.Xid.Peer = v }, func(s *xfer.Send) { s.Xid.Num = v },
		} {
			wantSendJudged(t, edited(s, edit))
		}
	}
	for _, size := range []int{0, 1, 127, 128, 129, 256, 257, 4095, 4096, 4097, 1 << 20} {
		for places := range 35 {
			wantSendJudged(t, edited(s, func(s *xfer.Send) { s.Image, s.Acked = fill(size, 'i'), make([]bool, places) }))
		}
		wantSendJudged(t, edited(s, func(s *xfer.Send) { s.Image, s.Acked = fill(size, 'i'), nil }))
	}
}

// TestRounds: all of Rounds and tries at their edges together.
func TestRounds(t *testing.T) {
	for _, rounds := range edges() {
		for _, tries := range edges() {
			s := edited(exampleSend(t), func(s *xfer.Send) { s.Rounds = rounds })
			switch {
			case rounds < 0:
			case tries < 0 || rounds >= tries:
				wantInVain(t, s, tries)
			default:
				wantRound(t, s, tries, 0, 1, 2)
			}
		}
	}
}

// TestDue: every choice of what is acknowledged, of three pieces and of 32.
func TestDue(t *testing.T) {
	for _, size := range []int{300, 4096} {
		image := counting(size)
		s := start(t, 2, exampleXid(), 2, image)
		for choice := range 1 << 10 {
			var pieces []int
			for i := range s.Acked {
				s.Acked[i] = choice>>(i%10)&1 == 1
				if !s.Acked[i] {
					pieces = append(pieces, i)
				}
			}
			l := due(t, s)
			for k, n := range l {
				if k < len(pieces) && n.Data != string(image[128*pieces[k]:min(size, 128*pieces[k]+128)]) {
					t.Errorf("P22.1: Due: piece %d has other bytes", n.Index)
				}
			}
			if !slices.Equal(indexes(l), pieces) {
				t.Errorf("P22.1: Due of %v: %v", s.Acked, indexes(l))
			}
			wantRound(t, s, math.MaxInt, pieces...)
			wantArrived(t, s, len(pieces) == 0)
		}
	}
}

// wantRecvJudged holds the calls that ask for the form of a Recv first against the second reading.
func wantRecvJudged(t *testing.T, r xfer.Recv) {
	t.Helper()
	b, is, err := xfer.Whole(r)
	if isRecv(r) {
		wantBare(t, fmt.Sprintf("P22.2: Whole of %v", r), err, nil)
		return
	}
	wantBare(t, fmt.Sprintf("P22.2: Whole of %v", r), err, api.ErrState)
	if is || len(b) > 0 {
		t.Errorf("P22.2: Whole = %x, %v beside an error", b, is)
	}
	for _, n := range anyNotes() {
		wantNotTaken(t, "P22.2: a Recv that isn't in form", r, n, api.ErrState)
	}
}

// TestRecvForm: each field of a Recv at its edges, on and off.
func TestRecvForm(t *testing.T) {
	r := wantTaken(t, xfer.Recv{}, due(t, exampleSend(t))[1])
	wantRecvJudged(t, r)
	for _, of := range []xfer.Recv{r, {}, {On: true}, {Stage: r.Stage}} {
		wantRecvJudged(t, of)
		for _, v := range edges() {
			for _, edit := range []func(r *xfer.Recv){
				func(r *xfer.Recv) { r.Stage.Part = v }, func(r *xfer.Recv) { r.Stage.Stage = v }, func(r *xfer.Recv) { r.Stage.Total = v },
				func(r *xfer.Recv) { r.Stage.Xid.Boot = v }, func(r *xfer.Recv) { r.Stage.Xid.Peer = v }, func(r *xfer.Recv) { r.Stage.Xid.Num = v },
			} {
				wantRecvJudged(t, edited(of, edit))
			}
		}
		for _, pieces := range [][]string{nil, {}, {""}, {"x"}, {"", ""}, {"", "", ""}, {"", "", "x"}, {"x", "", ""}, {fill(128, 'a'), "", ""}, {fill(128, 'a'), fill(128, 'b'), fill(129, 'c')}, {"", "", "", fill(128, 'a')}} {
			wantRecvJudged(t, edited(of, func(r *xfer.Recv) { r.Stage.Pieces = pieces }))
		}
	}
	// An empty list is as good as none.
	wantWhole(t, xfer.Recv{Stage: chunk.Stage{Pieces: []string{}}}, nil)
}

// TestOtherTransfers: each thing in which a note may be of another transfer, of acknowledgements and of pieces.
func TestOtherTransfers(t *testing.T) {
	s := exampleSend(t)
	l := due(t, s)
	whole := wantTaken(t, wantTaken(t, wantTaken(t, xfer.Recv{}, l[2]), l[1]), l[0])
	for _, edit := range []func(n *api.Note){
		func(n *api.Note) { n.Part = 1 }, func(n *api.Note) { n.Xid.Boot = 2 }, func(n *api.Note) { n.Xid.Peer = 2 }, func(n *api.Note) { n.Xid.Num = 1 },
		func(n *api.Note) { n.Stage = 2 }, func(n *api.Note) { n.Total = 4 }, func(n *api.Note) { n.Total = 32 }, func(n *api.Note) { n.Index, n.Total = 31, 32 },
	} {
		wantNotAcked(t, "P22.1: of another transfer", s, edited(ackOf(l[1]), edit), api.ErrBase)
		n := edited(l[1], edit)
		for _, r := range []xfer.Recv{whole, wantTaken(t, xfer.Recv{}, l[1]), {}} {
			next := wantTaken(t, r, n)
			want := xfer.Recv{On: true, Stage: chunk.Stage{Part: n.Part, Stage: n.Stage, Total: n.Total, Xid: n.Xid, Pieces: make([]string, n.Total)}}
			want.Stage.Pieces[n.Index] = n.Data
			wantRecv(t, "P22.2: Take of another transfer", next, want)
		}
	}
	wantNotAcked(t, "P22.1: of fewer pieces", s, edited(ackOf(l[0]), func(n *api.Note) { n.Total = 2 }), api.ErrBase)
}

// TestBadNotes: a note that isn't in form, or of another kind, is refused whatever has come, and whatever is sent.
func TestBadNotes(t *testing.T) {
	s := exampleSend(t)
	l := due(t, s)
	r := wantTaken(t, xfer.Recv{}, l[1])
	for _, n := range anyNotes() {
		wanted := chunk.Check(n)
		if wanted == nil && n.Kind != api.MsgChunk {
			wanted = api.ErrKind
		}
		for _, v := range []xfer.Recv{{}, r} {
			if wanted != nil {
				wantNotTaken(t, "P22.2: a note that is no piece", v, n, wanted)
			}
		}
		if wanted = chunk.Check(n); wanted == nil && n.Kind != api.MsgAck {
			wanted = api.ErrKind
		}
		if wanted != nil {
			wantNotAcked(t, "P22.1: a note that is no acknowledgement", s, n, wanted)
		}
	}
	for _, n := range l {
		for _, edit := range []func(n *api.Note){func(n *api.Note) { n.Kind = 0 }, func(n *api.Note) { n.Kind = 8 }} {
			wantNotTaken(t, "P22.2: of no kind", r, edited(n, edit), api.ErrKind)
		}
		for _, edit := range []func(n *api.Note){func(n *api.Note) { n.Data += fill(128, 'l') }, func(n *api.Note) { n.Data = "" }, func(n *api.Note) { n.Sum = 1 }} {
			wantNotTaken(t, "P22.2: not in form", r, edited(n, edit), api.ErrRange)
		}
	}
}

// TestMemory: P22.5: what is handed in stays, spare room included; answers are new memory.
func TestMemory(t *testing.T) {
	image := roomy(exampleImage())
	look := kept(t, image)
	s := start(t, 2, exampleXid(), 1, image)
	spoil(start(t, 2, exampleXid(), 1, image).Acked)
	look("Start")
	spoil(image)
	if s.Image != string(exampleImage()) {
		t.Error("P22.5: the Send changes with the image")
	}
	s.Acked = roomy([]bool{false, true, false})
	lookSend := kept(t, s.Acked)
	spoil(due(t, s))
	for _, tries := range []int{0, 1} {
		next, notes, _, err := xfer.Round(s, tries)
		wantBare(t, "P22.1: Round", err, nil)
		spoil(notes)
		for i := range next.Acked {
			next.Acked[i] = !next.Acked[i]
		}
		lookSend("Round")
	}
	for i, fresh := range []bool{true, false, true} {
		next := wantAcked(t, s, api.Note{Kind: api.MsgAck, Part: 2, Xid: s.Xid, Stage: 1, Index: i, Total: 3}, fresh)
		lookSend("Ack")
		spoil(next.Acked)
		lookSend("Ack")
	}
	wantArrived(t, s, false)
	l := due(t, exampleSend(t))
	r := wantTaken(t, xfer.Recv{}, l[1])
	r.Stage.Pieces = roomy(r.Stage.Pieces)
	lookRecv := kept(t, r.Stage.Pieces)
	for _, n := range append(l, edited(l[0], func(n *api.Note) { n.Xid.Num = 4 })) {
		spoil(wantTaken(t, r, n).Stage.Pieces)
		lookRecv("Take")
	}
	wantNotTaken(t, "P22.2: other bytes", r, edited(l[1], func(n *api.Note) { n.Data = fill(128, 'z') }), api.ErrBusy)
	lookRecv("Take")
	whole := wantTaken(t, wantTaken(t, r, l[0]), l[2])
	whole.Stage.Pieces = roomy(whole.Stage.Pieces)
	lookWhole := kept(t, whole.Stage.Pieces)
	b, _, err := xfer.Whole(whole)
	wantBare(t, "P22.2: Whole", err, nil)
	spoil(b)
	lookWhole("Whole")
	wantWhole(t, whole, exampleImage())
	lookSend("all calls")
}
