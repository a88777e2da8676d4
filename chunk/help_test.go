package chunk_test

import (
	"encoding/binary"
	"errors"
	"hash/crc32"
	"math/rand"
	"reflect"
	"slices"
	"testing"

	"ferry/api"
	"ferry/chunk"
)

// wantBare looks whether err is just that error (or none), without a place.
func wantBare(t *testing.T, what string, err, want error) {
	t.Helper()
	var at *api.At
	if api.Code(err) != api.Code(want) || errors.As(err, &at) {
		t.Errorf("%s: error %v at %d, want %v without a place", what, err, api.Place(err), want)
	}
}

// exampleXid, exampleCommit, commitBytes: those of the chapter's examples.
func exampleXid() api.Xid { return api.Xid{Boot: 1, Peer: 3, Num: 2} }

func exampleCommit() api.Note { return api.Note{Kind: api.MsgCommit, Part: 2, Xid: exampleXid()} }

const commitBytes = "\x00\x1b\x04\x02\x00\x00\x00\x01\x00\x00\x00\x03\x00\x00\x00\x02\x00\x00\x00\x00\x00\x00\x00\x6e\xd3\x88\x18"

// piece: a chunk in form, with so many bytes of that letter.
func piece(index, total, size int, letter byte) api.Note {
	return api.Note{Kind: api.MsgChunk, Part: 2, Xid: exampleXid(), Stage: api.ImageFull, Index: index, Total: total, Data: fill(size, letter)}
}

func fill(size int, letter byte) string { return string(slices.Repeat([]byte{letter}, size)) }

// edited: the note with a change.
func edited(n api.Note, edit func(n *api.Note)) api.Note {
	edit(&n)
	return n
}

// noteError: what the chapter asks of a note, read kind by kind from a table of most values.
func noteError(n api.Note) error {
	forms := map[int]struct{ stage, pieces, sum, data bool }{
		1: {stage: true, pieces: true, data: true}, 2: {stage: true, sum: true}, 3: {stage: true}, 4: {}, 5: {}, 6: {}, 7: {stage: true, pieces: true},
	}
	form, is := forms[n.Kind]
	if !is {
		return api.ErrKind
	}
	bad := n.Part < 0 || n.Part > 7
	for _, x := range []int{n.Xid.Boot, n.Xid.Peer, n.Xid.Num} {
		bad = bad || x < 1 || x > 2147483647
	}
	if form.stage {
		bad = bad || n.Stage != 1 && n.Stage != 2
	} else {
		bad = bad || n.Stage != 0
	}
	if form.pieces {
		bad = bad || n.Total < 1 || n.Total > 32 || n.Index < 0 || n.Index > n.Total-1
	} else {
		bad = bad || n.Index != 0 || n.Total != 0
	}
	bad = bad || !form.sum && n.Sum != 0
	least, most := 0, 0
	if form.data {
		least, most = 128, 128
	}
	if form.data && n.Index == n.Total-1 {
		least = 1
	}
	if bad || len(n.Data) < least || len(n.Data) > most {
		return api.ErrRange
	}
	return nil
}

// layOut: the bytes of any fields ahead of the sum, whether in form or not, with that length at their head.
func layOut(n api.Note, size int) []byte {
	b := binary.BigEndian.AppendUint16(nil, uint16(size))
	b = append(b, byte(n.Kind), byte(n.Part))
	for _, x := range []int{n.Xid.Boot, n.Xid.Peer, n.Xid.Num} {
		b = binary.BigEndian.AppendUint32(b, uint32(x))
	}
	b = append(b, byte(n.Stage), byte(n.Index), byte(n.Total))
	b = binary.BigEndian.AppendUint32(b, n.Sum)
	return append(b, n.Data...)
}

// seal: the bytes and their sum, by the library's way of summing.
func seal(b []byte) string {
	return string(binary.LittleEndian.AppendUint32(slices.Clone(b), crc32.ChecksumIEEE(b)))
}

// bytesOf: the note's bytes, by a second encoder.
func bytesOf(n api.Note) string { return seal(layOut(n, 27+len(n.Data))) }

// wantRefused looks whether the bytes are refused, with that error if one is told, and without a note.
func wantRefused(t *testing.T, what, s string, want error) {
	t.Helper()
	n, err := chunk.Get(s)
	if want == nil {
		want = err
	}
	if wantBare(t, what, err, want); err == nil || n != (api.Note{}) {
		t.Fatalf("%s: Get(%x) = %v, %v", what, s, n, err)
	}
}

func put(t *testing.T, n api.Note) string {
	t.Helper()
	s, err := chunk.Put(n)
	wantBare(t, "P20.1: Put", err, nil)
	return s
}

func cut(t *testing.T, n api.Note, image []byte) []api.Note {
	t.Helper()
	notes, err := chunk.Cut(n.Part, n.Xid, n.Stage, image)
	wantBare(t, "P20.2: Cut", err, nil)
	return notes
}

func begin(t *testing.T, n api.Note) chunk.Stage {
	t.Helper()
	s, err := chunk.Begin(n)
	wantBare(t, "P20.2: Begin", err, nil)
	return s
}

// wantAdded looks whether the piece gets onto the stage, as a new one or not.
func wantAdded(t *testing.T, s chunk.Stage, n api.Note, fresh bool) chunk.Stage {
	t.Helper()
	next, is, err := chunk.Add(s, n)
	if wantBare(t, "P20.2: Add", err, nil); is != fresh {
		t.Errorf("P20.2: Add of piece %d tells %v, want %v", n.Index, is, fresh)
	}
	return next
}

// wantNotAdded looks whether the note is refused with that error.
func wantNotAdded(t *testing.T, what string, s chunk.Stage, n api.Note, want error) {
	t.Helper()
	next, is, err := chunk.Add(s, n)
	if wantBare(t, what, err, want); is || !sameStage(next, chunk.Stage{}) {
		t.Errorf("%s: Add = %v, %v beside an error", what, next, is)
	}
}

func wantMissing(t *testing.T, s chunk.Stage, want ...int) {
	t.Helper()
	got, err := chunk.Missing(s)
	if wantBare(t, "P20.2: Missing", err, nil); !slices.Equal(got, want) {
		t.Errorf("P20.2: Missing = %v, want %v", got, want)
	}
}

// wantWhole looks for the image, or for none where it is nil.
func wantWhole(t *testing.T, s chunk.Stage, image []byte) {
	t.Helper()
	b, is, err := chunk.Whole(s)
	if wantBare(t, "P20.3: Whole", err, nil); is != (image != nil) || !slices.Equal(b, image) {
		t.Errorf("P20.3: Whole = %x, %v, want %x", b, is, image)
	}
}

func sameStage(a, b chunk.Stage) bool {
	return a.Part == b.Part && a.Stage == b.Stage && a.Total == b.Total && a.Xid == b.Xid && slices.Equal(a.Pieces, b.Pieces)
}

func wantStage(t *testing.T, what string, got, want chunk.Stage) {
	t.Helper()
	if !sameStage(got, want) {
		t.Errorf("%s: %v, want %v", what, got, want)
	}
}

func one[T any](r *rand.Rand, of ...T) T { return of[r.Intn(len(of))] }

func someBytes(r *rand.Rand, n int) []byte {
	b := make([]byte, n)
	r.Read(b)
	return b
}

// someXid: of numbers of all widths.
func someXid(r *rand.Rand) api.Xid {
	number := func() int {
		return one(r, 1, 2, 255, 256, 65537, 1<<24+3, 2147483646, 2147483647, 1+r.Intn(2147483647))
	}
	return api.Xid{Boot: number(), Peer: number(), Num: number()}
}

// someNote: any note in form.
func someNote(r *rand.Rand) api.Note {
	n := api.Note{Kind: 1 + r.Intn(7), Part: r.Intn(8), Xid: someXid(r)}
	switch n.Kind {
	case api.MsgChunk, api.MsgAck:
		n.Total = one(r, 1, 2, 3, 31, 32, 1+r.Intn(32))
		n.Index = one(r, 0, n.Total-1, r.Intn(n.Total))
	}
	switch n.Kind {
	case api.MsgChunk, api.MsgAck, api.MsgHave, api.MsgRefuse:
		n.Stage = 1 + r.Intn(2)
	}
	switch n.Kind {
	case api.MsgChunk:
		n.Data = string(someBytes(r, 128))
		if n.Index == n.Total-1 {
			n.Data = n.Data[:one(r, 1, 2, 127, 128, 1+r.Intn(128))]
		}
	case api.MsgHave:
		n.Sum = one(r, 0, 1, 1<<31, 1<<32-1, r.Uint32())
	}
	return n
}

// nearNote: a note in form, or one in which a field or two are at an edge, in or out of form.
func nearNote(r *rand.Rand) api.Note {
	n := someNote(r)
	for range r.Intn(3) {
		switch r.Intn(9) {
		case 0:
			n.Kind = one(r, 0, 1, 2, 3, 4, 5, 6, 7, 8, 255)
		case 1:
			n.Part = one(r, 0, 7, 8, 255)
		case 2:
			*one(r, &n.Xid.Boot, &n.Xid.Peer, &n.Xid.Num) = one(r, 0, 1, 2147483647, 2147483648, 4294967295)
		case 3:
			n.Stage = one(r, 0, 1, 2, 3, 255)
		case 4:
			n.Index = one(r, 0, 1, n.Total-1, 31, 32, 255)
		case 5:
			n.Total = one(r, 0, 1, n.Index, n.Index+1, 32, 33, 255)
		case 6:
			n.Sum = one[uint32](r, 0, 1, 1<<31)
		case 7:
			n.Data = string(someBytes(r, one(r, 0, 1, 127, 128, 129, 200)))
		case 8:
			n.Kind, n.Stage = one(r, 1, 7), one(r, 1, 2)
		}
	}
	// Beside what a byte holds it couldn't be laid out.
	n.Index, n.Total = max(n.Index, 0), min(n.Total, 255)
	return n
}

// kept gives a look whether the list, spare room included, is what it was.
func kept[T any](t *testing.T, list []T) func(what string) {
	was := slices.Clone(list[:cap(list)])
	return func(what string) {
		t.Helper()
		if !reflect.DeepEqual(list[:cap(list)], was) {
			t.Errorf("P20.5: %s: what was handed in has changed", what)
		}
	}
}

// roomy: the list as new memory, with spare room that holds like elements.
func roomy[T any](list []T) []T {
	return slices.Concat(list, list)[:len(list)]
}

// spoil overwrites a list, spare room included: whoever shares memory with it shows it.
func spoil[T any](list []T) { clear(list[:cap(list)]) }
