package xfer_test

import (
	"errors"
	"math"
	"math/rand"
	"reflect"
	"slices"
	"strings"
	"testing"

	"ferry/api"
	"ferry/chunk"
	"ferry/xfer"
)

// wantBare looks whether err is just that error (or none), without a place.
func wantBare(t *testing.T, what string, err, want error) {
	t.Helper()
	var at *api.At
	if api.Code(err) != api.Code(want) || errors.As(err, &at) {
		t.Errorf("%s: error %v at %d, want %v without a place", what, err, api.Place(err), want)
	}
}

// exampleXid, exampleImage, exampleSend: those of the chapter's examples.
func exampleXid() api.Xid { return api.Xid{Boot: 1, Peer: 1, Num: 2} }

func exampleImage() []byte { return counting(300) }

func exampleSend(t *testing.T) xfer.Send {
	t.Helper()
	return start(t, 2, exampleXid(), api.ImageFull, exampleImage())
}

// counting: an image whose pieces are all unlike.
func counting(size int) []byte {
	b := make([]byte, size)
	for i := range b {
		b[i] = byte(i + i/128)
	}
	return b
}

func start(t *testing.T, part int, x api.Xid, stage int, image []byte) xfer.Send {
	t.Helper()
	s, err := xfer.Start(part, x, stage, image)
	wantBare(t, "P22.1: Start", err, nil)
	return s
}

func due(t *testing.T, s xfer.Send) []api.Note {
	t.Helper()
	l, err := xfer.Due(s)
	wantBare(t, "P22.1: Due", err, nil)
	return l
}

// wantRound looks for a round that goes on, with the pieces of these numbers.
func wantRound(t *testing.T, s xfer.Send, tries int, pieces ...int) xfer.Send {
	t.Helper()
	next, notes, on, err := xfer.Round(s, tries)
	wantBare(t, "P22.1: Round", err, nil)
	if !on || !slices.Equal(indexes(notes), pieces) {
		t.Errorf("P22.1: Round(%d) sends %v, %v, want %v", tries, indexes(notes), on, pieces)
	}
	s.Rounds++
	wantSend(t, "P22.1: Round", next, s)
	return next
}

// wantInVain looks for a round that sends nothing any more.
func wantInVain(t *testing.T, s xfer.Send, tries int) {
	t.Helper()
	next, notes, on, err := xfer.Round(s, tries)
	wantBare(t, "P22.1: Round", err, nil)
	if on || len(notes) > 0 {
		t.Errorf("P22.1: Round(%d) sends %v, %v, want it in vain", tries, indexes(notes), on)
	}
	wantSend(t, "P22.1: Round", next, s)
}

// wantAcked looks whether the acknowledgement is taken, as a new one or not.
func wantAcked(t *testing.T, s xfer.Send, n api.Note, fresh bool) xfer.Send {
	t.Helper()
	next, is, err := xfer.Ack(s, n)
	wantBare(t, "P22.1: Ack", err, nil)
	if is != fresh {
		t.Errorf("P22.1: Ack of piece %d tells %v, want %v", n.Index, is, fresh)
	}
	return next
}

// wantNotAcked looks whether the note is refused with that error.
func wantNotAcked(t *testing.T, what string, s xfer.Send, n api.Note, want error) {
	t.Helper()
	next, is, err := xfer.Ack(s, n)
	wantBare(t, what+": Ack", err, want)
	if is {
		t.Errorf("%s: Ack tells true beside an error", what)
	}
	wantSend(t, what+": Ack", next, xfer.Send{})
}

func wantArrived(t *testing.T, s xfer.Send, want bool) {
	t.Helper()
	is, err := xfer.Arrived(s)
	wantBare(t, "P22.1: Arrived", err, nil)
	if is != want {
		t.Errorf("P22.1: Arrived(%v) = %v", s.Acked, is)
	}
}

// wantTaken looks whether the piece is taken, and acknowledged.
func wantTaken(t *testing.T, r xfer.Recv, n api.Note) xfer.Recv {
	t.Helper()
	next, ack, err := xfer.Take(r, n)
	wantBare(t, "P22.2: Take", err, nil)
	if ack != ackOf(n) {
		t.Errorf("P22.2: Take of %v answers %v", n, ack)
	}
	return next
}

// wantNotTaken looks whether the note is refused with that error.
func wantNotTaken(t *testing.T, what string, r xfer.Recv, n api.Note, want error) {
	t.Helper()
	next, ack, err := xfer.Take(r, n)
	wantBare(t, what+": Take", err, want)
	if ack != (api.Note{}) {
		t.Errorf("%s: Take answers %v beside an error", what, ack)
	}
	wantRecv(t, what+": Take", next, xfer.Recv{})
}

// wantWhole looks for the image, or for none where it is nil.
func wantWhole(t *testing.T, r xfer.Recv, image []byte) {
	t.Helper()
	b, is, err := xfer.Whole(r)
	wantBare(t, "P22.2: Whole", err, nil)
	if is != (image != nil) || !slices.Equal(b, image) {
		t.Errorf("P22.3: Whole = %x, %v, want %x", b, is, image)
	}
}

// ackOf: the acknowledgement of a chunk.
func ackOf(n api.Note) api.Note {
	return api.Note{Kind: api.MsgAck, Part: n.Part, Xid: n.Xid, Stage: n.Stage, Index: n.Index, Total: n.Total}
}

func wantSend(t *testing.T, what string, got, want xfer.Send) {
	t.Helper()
	same := slices.Equal(got.Acked, want.Acked)
	got.Acked, want.Acked = nil, nil
	if !same || !reflect.DeepEqual(got, want) {
		t.Errorf("%s: the Send is %v, want %v", what, got, want)
	}
}

func wantRecv(t *testing.T, what string, got, want xfer.Recv) {
	t.Helper()
	same := slices.Equal(got.Stage.Pieces, want.Stage.Pieces)
	got.Stage.Pieces, want.Stage.Pieces = nil, nil
	if !same || !reflect.DeepEqual(got, want) {
		t.Errorf("%s: the Recv is %v, want %v", what, got, want)
	}
}

func indexes(notes []api.Note) []int {
	var l []int
	for _, n := range notes {
		l = append(l, n.Index)
	}
	return l
}

// edited: the value with a change.
func edited[T any](v T, edit func(v *T)) T {
	edit(&v)
	return v
}

func fill(size int, letter byte) string { return strings.Repeat(string(letter), size) }

// edges: numbers at and beside all bounds.
func edges() []int {
	return []int{math.MinInt, -1, 0, 1, 2, 3, 7, 8, 9, 31, 32, 33, 2147483647, 2147483648, 4294967297, math.MaxInt}
}

// isName: may a note bear these, as layer 20 says?
func isName(part int, x api.Xid) bool {
	for _, n := range []int{x.Boot, x.Peer, x.Num} {
		if n < 1 || n > 2147483647 {
			return false
		}
	}
	return part >= 0 && part <= 7
}

// isSend: what the chapter asks of a Send, by the numbers themselves.
func isSend(s xfer.Send) bool {
	size := len(s.Image)
	return isName(s.Part, s.Xid) && (s.Stage == 1 || s.Stage == 2) && size >= 1 && size <= 4096 && len(s.Acked) == (size+127)/128 && s.Rounds >= 0
}

// isRecv: what the chapter asks of a Recv, by the numbers themselves.
func isRecv(r xfer.Recv) bool {
	s := r.Stage
	if !r.On {
		return s.Part == 0 && s.Xid == api.Xid{} && s.Stage == 0 && s.Total == 0 && len(s.Pieces) == 0
	}
	if !isName(s.Part, s.Xid) || s.Stage != 1 && s.Stage != 2 || s.Total < 1 || s.Total > 32 || len(s.Pieces) != s.Total {
		return false
	}
	come := 0
	for i, piece := range s.Pieces {
		if piece == "" {
			continue
		}
		come++
		if len(piece) > 128 || len(piece) < 128 && i < s.Total-1 {
			return false
		}
	}
	return come > 0
}

func one[T any](r *rand.Rand, of ...T) T { return of[r.Intn(len(of))] }

func someBytes(r *rand.Rand, n int) []byte {
	b := make([]byte, n)
	r.Read(b)
	return b
}

// someXid: of few numbers, so that two of them often are alike.
func someXid(r *rand.Rand) api.Xid {
	number := func() int { return one(r, 1, 1, 1, 2, 2147483647) }
	return api.Xid{Boot: number(), Peer: number(), Num: number()}
}

// someSend: mostly in form; some of its pieces are acknowledged.
func someSend(r *rand.Rand) xfer.Send {
	image := someBytes(r, one(r, 1, 127, 128, 129, 300, 300, 300, 4096, 1+r.Intn(600)))
	s := xfer.Send{Part: one(r, 0, 2, 2, 2, 7), Xid: someXid(r), Stage: 1 + r.Intn(2), Image: string(image), Rounds: one(r, 0, 0, 1, 2, 3, 64, math.MaxInt)}
	for range (len(image) + 127) / 128 {
		s.Acked = append(s.Acked, r.Intn(2) == 0)
	}
	if r.Intn(8) == 0 {
		s.Acked = slices.Repeat([]bool{true}, len(s.Acked))
	}
	switch r.Intn(24) {
	case 0:
		*one(r, &s.Part, &s.Stage, &s.Rounds, &s.Xid.Boot, &s.Xid.Peer, &s.Xid.Num) = one(r, edges()...)
	case 1:
		s.Acked = s.Acked[1:]
	case 2:
		s.Acked = append(s.Acked, true)
	case 3:
		s.Image = one(r, "", fill(4097, 'l'), fill(4096, 'l'))
	}
	return s
}

// someRecv: mostly in form; some of its pieces have come.
func someRecv(r *rand.Rand) xfer.Recv {
	if r.Intn(8) == 0 {
		v := xfer.Recv{}
		switch r.Intn(8) {
		case 0:
			*one(r, &v.Stage.Part, &v.Stage.Stage, &v.Stage.Total, &v.Stage.Xid.Boot, &v.Stage.Xid.Peer, &v.Stage.Xid.Num) = one(r, edges()...)
		case 1:
			v.Stage.Pieces = one(r, []string{}, []string{""}, []string{"x"})
		}
		return v
	}
	s := chunk.Stage{Part: one(r, 0, 2, 2, 2, 7), Xid: someXid(r), Stage: 1 + r.Intn(2), Total: one(r, 1, 2, 3, 3, 32)}
	for i := range s.Total {
		piece := fill(128, one[byte](r, 'a', 'a', 'a', 'b'))
		if i == s.Total-1 {
			piece = piece[:one(r, 1, 44, 128)]
		}
		s.Pieces = append(s.Pieces, piece)
		if r.Intn(2) == 0 {
			s.Pieces[i] = ""
		}
	}
	switch r.Intn(24) {
	case 0:
		*one(r, &s.Part, &s.Stage, &s.Total, &s.Xid.Boot, &s.Xid.Peer, &s.Xid.Num) = one(r, edges()...)
	case 1:
		s.Pieces = s.Pieces[1:]
	case 2:
		s.Pieces = append(s.Pieces, "")
	case 3:
		s.Pieces[r.Intn(s.Total)] = fill(one(r, 1, 127, 129), 'a')
	}
	return xfer.Recv{On: r.Intn(30) > 0, Stage: s}
}

// roomy: the list as new memory, with spare room that holds like elements.
func roomy[T any](list []T) []T { return slices.Concat(list, list)[:len(list)] }

// kept gives a look whether the list, spare room included, is what it was.
func kept[T any](t *testing.T, list []T) func(what string) {
	was := slices.Clone(list[:cap(list)])
	return func(what string) {
		t.Helper()
		if !reflect.DeepEqual(list[:cap(list)], was) {
			t.Errorf("P22.5: %s: what was handed in has changed", what)
		}
	}
}

// spoil overwrites a list, spare room included: whoever shares memory with it shows it.
func spoil[T any](list []T) { clear(list[:cap(list)]) }
