package chunk_test

import (
	"fmt"
	"math"
	"math/rand"
	"testing"

	"ferry/api"
	"ferry/chunk"
	"ferry/crc"
)

// TestExampleNotes: the examples 1, 2 and 6.
func TestExampleNotes(t *testing.T) {
	if s := put(t, exampleCommit()); s != commitBytes {
		t.Errorf("P20.1: Put = %x, want %x", s, commitBytes)
	}
	if n, err := chunk.Get(commitBytes); n != exampleCommit() || err != nil {
		t.Errorf("P20.1: Get = %v, %v", n, err)
	}
	for _, c := range []struct {
		n    api.Note
		want error
	}{
		{edited(exampleCommit(), func(n *api.Note) { n.Stage = 1 }), api.ErrRange},
		{edited(exampleCommit(), func(n *api.Note) { n.Kind = 0 }), api.ErrKind}, {edited(exampleCommit(), func(n *api.Note) { n.Kind = 8 }), api.ErrKind},
		{piece(0, 1, 0, 'a'), api.ErrRange}, {piece(0, 2, 127, 'a'), api.ErrRange}, {piece(0, 2, 128, 'a'), nil}, {piece(1, 2, 1, 'a'), nil},
		{edited(exampleCommit(), func(n *api.Note) { n.Xid.Num = 0 }), api.ErrRange},
	} {
		wantBare(t, "P20.1: Check", chunk.Check(c.n), c.want)
	}
	wantRefused(t, "P20.1: no bytes", "", api.ErrShort)
	wantRefused(t, "P20.1: 26 bytes, sealed", seal([]byte(commitBytes[:22])), api.ErrShort)
	wantRefused(t, "P20.1: none, sealed", seal(nil), api.ErrShort)
	wantRefused(t, "P20.1: three bytes", "abc", api.ErrShort)
	wantRefused(t, "P20.1: four bytes", "\x01\x00\x00\x00", api.ErrSum)
	for c := range 256 {
		wantRefused(t, "P20.1: a byte behind", commitBytes+string([]byte{byte(c)}), api.ErrSum)
	}
	wantRefused(t, "P20.1: a byte behind, sealed", seal([]byte(commitBytes[:23]+"x")), api.ErrLength)
}

// TestRightSumBehind: a note's bytes with others behind, the last of which happen to make a right sum.
func TestRightSumBehind(t *testing.T) {
	for n := range 300 {
		wantRefused(t, "P20.1: a right sum behind", seal([]byte(commitBytes+fill(n, 'x'))), api.ErrLength)
	}
}

// edges: numbers at and beside all bounds of a note's fields.
func edges() []int {
	return []int{math.MinInt, -1, 0, 1, 2, 3, 6, 7, 8, 9, 31, 32, 33, 127, 128, 129, 255, 256, 257, 65536, 2147483646, 2147483647, 2147483648, 4294967295, 4294967296, 4294967297, math.MaxInt}
}

// wantChecked holds Check and Put, and where the note is in form Get, against the second reading of the chapter.
func wantChecked(t *testing.T, n api.Note) {
	t.Helper()
	want := noteError(n)
	what := fmt.Sprintf("P20.1: %+v", n)
	wantBare(t, what, chunk.Check(n), want)
	s, err := chunk.Put(n)
	wantBare(t, what, err, want)
	if want != nil {
		if s != "" {
			t.Errorf("%s: Put = %x beside an error", what, s)
		}
		return
	}
	if s != bytesOf(n) {
		t.Errorf("%s: Put = %x, want %x", what, s, bytesOf(n))
	}
	if back, err := chunk.Get(s); back != n || err != nil {
		t.Errorf("%s: Get(Put) = %v, %v", what, back, err)
	}
}

// base: a note in form of each kind.
func base(kind int) api.Note {
	n := api.Note{Kind: kind, Part: 3, Xid: api.Xid{Boot: 5, Peer: 1 << 20, Num: 77}}
	switch kind {
	case api.MsgChunk:
		n.Stage, n.Index, n.Total, n.Data = 1, 1, 2, "some"
	case api.MsgAck:
		n.Stage, n.Index, n.Total = 2, 1, 2
	case api.MsgHave:
		n.Stage, n.Sum = 1, 9
	case api.MsgRefuse:
		n.Stage = 2
	}
	return n
}

// TestEveryField: each field of a note of each kind at all its edges; a note of no kind is of no kind, whatever else is wrong.
func TestEveryField(t *testing.T) {
	for kind := 1; kind <= 7; kind++ {
		wantChecked(t, base(kind))
		for _, v := range edges() {
			for _, edit := range []func(n *api.Note){
				func(n *api.Note) { n.Kind = v }, func(n *api.Note) { n.Part = v }, func(n *api.Note) { n.Xid.Boot = v }, func(n *api.Note) { n.Xid.Peer = v }, func(n *api.Note) { n.Xid.Num = v },
				func(n *api.Note) { n.Stage = v }, func(n *api.Note) { n.Index = v }, func(n *api.Note) { n.Total = v }, func(n *api.Note) { n.Sum = uint32(v) },
				func(n *api.Note) { n.Kind, n.Part, n.Xid.Num = v, 8, 0 },
			} {
				wantChecked(t, edited(base(kind), edit))
			}
		}
		for size := range 300 {
			wantChecked(t, edited(base(kind), func(n *api.Note) { n.Data = fill(size, 'd') }))
		}
		wantChecked(t, edited(base(kind), func(n *api.Note) { n.Data = fill(1<<20, 'd') }))
	}
}

// TestEveryPiece: all of Index, Total and Data's length together, of chunks and acknowledgements.
func TestEveryPiece(t *testing.T) {
	for kind := 0; kind <= 8; kind++ {
		for index := -1; index <= 34; index++ {
			for total := -1; total <= 34; total++ {
				for _, size := range []int{0, 1, 127, 128, 129} {
					n := base(kind)
					n.Index, n.Total, n.Data = index, total, fill(size, 'p')
					wantChecked(t, n)
				}
			}
		}
		for _, index := range edges() {
			for _, total := range edges() {
				wantChecked(t, edited(base(kind), func(n *api.Note) { n.Index, n.Total = index, total }))
			}
		}
	}
}

// TestEveryKindAndStage: which kinds bear a stage and a sum.
func TestEveryKindAndStage(t *testing.T) {
	for kind := -1; kind <= 9; kind++ {
		for stage := -1; stage <= 4; stage++ {
			for _, sum := range []uint32{0, 1, 1<<32 - 1} {
				wantChecked(t, edited(base(kind), func(n *api.Note) { n.Stage, n.Sum = stage, sum }))
			}
		}
	}
}

// TestSomeNotes: any notes in form, and notes near to these.
func TestSomeNotes(t *testing.T) {
	r := rand.New(rand.NewSource(201))
	for range 5000 {
		n := someNote(r)
		wantBare(t, "a random note is in form", noteError(n), nil)
		wantChecked(t, n)
		wantChecked(t, nearNote(r))
	}
}

// TestGetOfFields: sealed bytes with any fields and any length at their head; where they are taken, they are what Put answers.
func TestGetOfFields(t *testing.T) {
	r := rand.New(rand.NewSource(202))
	seen := map[int]int{}
	for range 20000 {
		n := nearNote(r)
		size := 27 + len(n.Data)
		said := one(r, size, size, size, size, size, size+1, size-1, size-4, 0, 27, 1<<16-1, size^1<<8)
		want := noteError(n)
		if said != size {
			want = api.ErrLength
		}
		s := seal(layOut(n, said))
		got, err := chunk.Get(s)
		seen[api.Code(err)]++
		wantBare(t, "P20.1: Get", err, want)
		if want != nil {
			n = api.Note{}
		}
		if got != n {
			t.Fatalf("P20.1: Get(%x) = %v, want %v", s, got, n)
		}
		if err == nil && put(t, got) != s {
			t.Fatalf("P20.1: Put(Get(%x)) is something else", s)
		}
	}
	for _, want := range []error{nil, api.ErrKind, api.ErrRange, api.ErrLength} {
		if seen[api.Code(want)] < 200 {
			t.Errorf("%v came about only %d times", want, seen[api.Code(want)])
		}
	}
}

// TestGetOfAnything: bytes of every length up to some, sealed or not, and what is longer than the length at the head can say.
func TestGetOfAnything(t *testing.T) {
	r := rand.New(rand.NewSource(203))
	for size := range 300 {
		for range 20 {
			b := someBytes(r, size)
			want := api.ErrSum
			if size < 4 {
				want = api.ErrShort
			}
			wantRefused(t, "P20.1: any bytes", string(b), want)
			want = api.ErrLength
			if size < 23 {
				want = api.ErrShort
			} else {
				// Never the right length by chance.
				b[0] |= 0x80
			}
			wantRefused(t, "P20.1: any bytes, sealed", seal(b), want)
		}
	}
	n := base(api.MsgChunk)
	for _, more := range []int{1 << 16, 2 << 16, 1 << 24} {
		n.Data = fill(more+4, 'l')
		wantRefused(t, "P20.1: a length that wraps", seal(layOut(n, (27+len(n.Data))&0xffff)), api.ErrLength)
	}
	n.Data = fill(1<<16-1-27, 'l')
	wantRefused(t, "P20.1: the greatest length", seal(layOut(n, 1<<16-1)), api.ErrRange)
}

// spoilNotes: of each kind, and of the shortest, a middle and the greatest length.
func spoilNotes() []api.Note {
	notes := []api.Note{exampleCommit(), piece(31, 32, 128, 0), piece(0, 1, 1, 0xff), piece(2, 3, 44, 'x')}
	for kind := 1; kind <= 7; kind++ {
		notes = append(notes, base(kind))
	}
	return notes
}

// TestBursts: a burst at every bit of a note's bytes, of every length, and of many patterns.
func TestBursts(t *testing.T) {
	r := rand.New(rand.NewSource(204))
	for _, n := range spoilNotes() {
		b := []byte(put(t, n))
		for at := range 8 * len(b) {
			masks := []uint32{1<<32 - 1, r.Uint32(), r.Uint32() | 1, 0x80000001}
			for reach := range 32 {
				masks = append(masks, 1<<reach, 1<<reach|1, 1<<reach-1)
			}
			for _, mask := range masks {
				turned, err := crc.Turn(b, at, mask)
				if err == nil {
					wantRefused(t, "P20.1: a burst", string(turned), nil)
				}
			}
		}
	}
	for range 2000 {
		b := []byte(put(t, someNote(r)))
		turned, err := crc.Turn(b, r.Intn(8*len(b)), r.Uint32())
		if err == nil {
			wantRefused(t, "P20.1: a burst", string(turned), api.ErrSum)
		}
	}
}

// TestBeginnings: every strict beginning of a note's bytes, those too whose own last bytes are their sum.
func TestBeginnings(t *testing.T) {
	r := rand.New(rand.NewSource(205))
	notes := spoilNotes()
	for range 200 {
		notes = append(notes, someNote(r))
	}
	// Data may hold a whole note, sealed bytes among them.
	inner := put(t, exampleCommit())
	notes = append(notes, edited(piece(0, 1, 0, 0), func(n *api.Note) { n.Data = inner + inner }))
	for _, n := range notes {
		s := put(t, n)
		for size := range len(s) {
			wantRefused(t, "P20.1: a strict beginning", s[:size], nil)
		}
	}
	for range 200 {
		n := someNote(r)
		n.Kind, n.Stage, n.Sum, n.Index, n.Total = api.MsgChunk, 1, 0, 0, 1
		n.Data = string(someBytes(r, 8+r.Intn(121)))
		// Behind the first bytes of Data stands the sum of all that is ahead of it.
		at := 23 + r.Intn(len(n.Data)-3)
		b := layOut(n, 27+len(n.Data))
		copy(b[at:], seal(b[:at])[at:])
		s := seal(b)
		if _, err := chunk.Get(s); err != nil {
			t.Fatalf("P20.1: Get(%x): %v", s, err)
		}
		wantRefused(t, "P20.1: a beginning with a right sum", s[:at+4], api.ErrLength)
	}
}

// answerOf: what the chapter asks of Answer, by a table of which kind answers which.
func answerOf(n api.Note, kind int, sum uint32) (api.Note, error) {
	if err := noteError(n); err != nil {
		return api.Note{}, err
	}
	asks, is := map[int]int{7: 1, 2: 1, 3: 1, 5: 4}[kind]
	if !is {
		return api.Note{}, api.ErrKind
	}
	if n.Kind != asks || kind != 2 && sum != 0 {
		return api.Note{}, api.ErrArg
	}
	want := api.Note{Kind: kind, Part: n.Part, Xid: n.Xid}
	switch kind {
	case 7:
		want.Stage, want.Index, want.Total = n.Stage, n.Index, n.Total
	case 2:
		want.Stage, want.Sum = n.Stage, sum
	case 3:
		want.Stage = n.Stage
	}
	return want, nil
}

func wantAnswer(t *testing.T, n api.Note, kind int, sum uint32, want api.Note, wanted error) {
	t.Helper()
	a, err := chunk.Answer(n, kind, sum)
	wantBare(t, fmt.Sprintf("P20.2: Answer(%v, %d, %d)", n, kind, sum), err, wanted)
	if a != want {
		t.Errorf("P20.2: Answer(%v, %d, %d) = %v, want %v", n, kind, sum, a, want)
	}
	if err == nil && chunk.Check(a) != nil {
		t.Errorf("P20.2: Answer(%v, %d, %d) isn't in form", n, kind, sum)
	}
}

// TestAnswer: the example 5; each kind for each kind of note; and any notes.
func TestAnswer(t *testing.T) {
	c, x := piece(1, 3, 128, 'a'), exampleXid()
	wantAnswer(t, c, api.MsgHave, 7, api.Note{Kind: api.MsgHave, Part: 2, Xid: x, Stage: 1, Sum: 7}, nil)
	wantAnswer(t, c, api.MsgHave, 0, api.Note{Kind: api.MsgHave, Part: 2, Xid: x, Stage: 1}, nil)
	wantAnswer(t, c, api.MsgAck, 7, api.Note{}, api.ErrArg)
	wantAnswer(t, c, api.MsgAck, 0, api.Note{Kind: api.MsgAck, Part: 2, Xid: x, Stage: 1, Index: 1, Total: 3}, nil)
	wantAnswer(t, c, api.MsgRefuse, 0, api.Note{Kind: api.MsgRefuse, Part: 2, Xid: x, Stage: 1}, nil)
	wantAnswer(t, c, api.MsgRefuse, 1, api.Note{}, api.ErrArg)
	wantAnswer(t, exampleCommit(), api.MsgStarted, 0, api.Note{Kind: api.MsgStarted, Part: 2, Xid: x}, nil)
	wantAnswer(t, exampleCommit(), api.MsgStarted, 1, api.Note{}, api.ErrArg)
	wantAnswer(t, exampleCommit(), api.MsgAck, 0, api.Note{}, api.ErrArg)
	wantAnswer(t, c, api.MsgStarted, 0, api.Note{}, api.ErrArg)
	wantAnswer(t, c, api.MsgCancel, 0, api.Note{}, api.ErrKind)
	// The errors' order: the note, the kind, the rest.
	wantAnswer(t, api.Note{}, api.MsgAck, 0, api.Note{}, api.ErrKind)
	wantAnswer(t, piece(0, 1, 0, 'a'), api.MsgCancel, 7, api.Note{}, api.ErrRange)
	wantAnswer(t, exampleCommit(), api.MsgChunk, 7, api.Note{}, api.ErrKind)
	r := rand.New(rand.NewSource(206))
	for of := 0; of <= 8; of++ {
		for _, kind := range append(edges(), 4, 5) {
			for _, sum := range []uint32{0, 1, 1 << 31, 1<<32 - 1} {
				want, err := answerOf(base(of), kind, sum)
				wantAnswer(t, base(of), kind, sum, want, err)
			}
		}
	}
	for range 5000 {
		n, kind, sum := nearNote(r), one(r, 2, 3, 5, 7, r.Intn(9)), one(r, 0, 0, r.Uint32())
		want, err := answerOf(n, kind, sum)
		wantAnswer(t, n, kind, sum, want, err)
	}
}
