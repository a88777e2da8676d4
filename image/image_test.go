package image_test

import (
	"encoding/binary"
	"hash/crc32"
	"math"
	"math/rand"
	"slices"
	"testing"

	"ferry/api"
	"ferry/crc"
	"ferry/image"
	"ferry/wire"
)

// leastRecs: the records of the chapter's example 1.
func leastRecs() []wire.Rec {
	recs := recsOf(1, 4, 5, 6, 7)
	recs[0].Body = make([]byte, 8)
	return recs
}

// headed: an image of 47 bytes whose head is that, with the sum of it.
func headed(name string, version, kind uint16, length, planSum, id uint32) []byte {
	b := binary.BigEndian.AppendUint16([]byte(name), version)
	b = binary.BigEndian.AppendUint16(b, kind)
	for _, n := range []uint32{length, planSum, id} {
		b = binary.BigEndian.AppendUint32(b, n)
	}
	b = append(b, 1, 0, 8, 0, 0, 0, 0, 0, 0, 0, 0, 4, 0, 0, 5, 0, 0, 6, 0, 0, 7, 0, 0)
	return sealed(b)
}

func lookFails(t *testing.T, what string, b []byte, wanted error, place int) {
	t.Helper()
	h, err := image.Look(b)
	want(t, "P16.1: Look of "+what, err, wanted, place)
	if h != (image.Head{}) {
		t.Errorf("F1: Look of %s: %v beside an error", what, h)
	}
	recs, err := image.Records(b)
	want(t, "P16.1: Records of "+what, err, wanted, place)
	if len(recs) > 0 {
		t.Errorf("F1: Records of %s: %v beside an error", what, recs)
	}
}

// TestLook: the example 2, every error, and their order: what is wrong in several ways has the first one's.
func TestLook(t *testing.T) {
	lookFails(t, "nothing", nil, api.ErrShort, -1)
	lookFails(t, "23 bytes", make([]byte, 23), api.ErrShort, -1)
	lookFails(t, "23 sealed bytes", sealed(make([]byte, 19)), api.ErrShort, -1)
	lookFails(t, "24 zeros", make([]byte, 24), api.ErrSum, -1)
	lookFails(t, "24 bytes of no image", sealed(make([]byte, 20)), api.ErrTag, 0)
	lookFails(t, "4096 zeros", make([]byte, 4096), api.ErrSum, -1)
	lookFails(t, "4097 zeros", make([]byte, 4097), api.ErrSize, -1)
	lookFails(t, "4097 sealed bytes", sealed(make([]byte, 4093)), api.ErrSize, -1)
	lookFails(t, "a million bytes", make([]byte, 1000000), api.ErrSize, -1)
	lookFails(t, "a wrong sum and head", headed("FORY", 2, 0, 0, 0, 0)[1:], api.ErrSum, -1)
	for _, name := range []string{"fERY", "FeRY", "FErY", "FERy", "YREF", "\x00\x00\x00\x00"} {
		lookFails(t, "another name", headed(name, 1, 1, 47, 5, 6), api.ErrTag, 0)
		lookFails(t, "another name and all", headed(name, 2, 3, 48, 5, 6), api.ErrTag, 0)
	}
	for _, version := range []uint16{0, 2, 256, 257, 65535} {
		lookFails(t, "another version", headed("FERY", version, 1, 47, 5, 6), api.ErrKind, 4)
		lookFails(t, "another version and all", headed("FERY", version, 3, 48, 5, 6), api.ErrKind, 4)
	}
	for _, kind := range []uint16{0, 3, 256, 257, 258, 65535} {
		lookFails(t, "another kind", headed("FERY", 1, kind, 47, 5, 6), api.ErrKind, 6)
		lookFails(t, "another kind and length", headed("FERY", 1, kind, 48, 5, 6), api.ErrKind, 6)
	}
	for _, length := range []uint32{0, 46, 48, 43, 27, 303, 1<<16 + 47, 1<<24 + 47, 1<<32 - 1} {
		lookFails(t, "another length", headed("FERY", 1, 1, length, 5, 6), api.ErrLength, 8)
		lookFails(t, "another length of a delta", headed("FERY", 1, 2, length, 5, 6), api.ErrLength, 8)
	}
	lookFails(t, "a byte more", sealed(append(exampleBytes(), 0)), api.ErrLength, 8)
	lookFails(t, "a sum more", sealed(sealed(exampleBytes())), api.ErrLength, 8)
}

// TestHead: every field of the head, at its edges.
func TestHead(t *testing.T) {
	for _, kind := range []int{1, 2} {
		for _, id := range []int{0, 1, 2147483647, 2147483648, 4294967295, 0x01020304} {
			for _, sum := range []uint32{0, 1, 0xA1B2C3D4, math.MaxUint32} {
				b := headed("FERY", 1, uint16(kind), 47, sum, uint32(id))
				h, err := image.Look(b)
				wantNone(t, "P16.1: Look", err)
				if h != (image.Head{Kind: kind, Length: 47, Id: id, PlanSum: sum, Sum: crc32.ChecksumIEEE(b[:43])}) {
					t.Errorf("P16.1: Look = %+v", h)
				}
			}
		}
	}
	b := sealed(exampleBytes())
	h, err := image.Look(b)
	wantNone(t, "P16.1: Look of the example 6", err)
	if h != (image.Head{Kind: 1, Length: 189, Id: 3, PlanSum: 0xc63b2ccd, Sum: 0xba731442}) || !slices.Equal(b[185:], []byte{0x42, 0x14, 0x73, 0xba}) {
		t.Errorf("P16.1: Look of the example 6 = %+v", h)
	}
}

// TestLeast: the example 1.
func TestLeast(t *testing.T) {
	b, err := image.Pack(1, 5, 6, leastRecs())
	wantNone(t, "P16.1: Pack", err)
	if !slices.Equal(b, headed("FERY", 1, 1, 47, 5, 6)) {
		t.Errorf("P16.1: Pack = %x", b)
	}
	recs, err := image.Records(b)
	wantNone(t, "P16.1: Records", err)
	wantRecs(t, "P16.1: Records", recs, leastRecs())
	b = headed("FERY", 1, 1, 47, 0xc63b2ccd, 3)
	s, err := image.Decode(examplePlan(), b)
	want(t, "P16.2: Decode of the least image", err, api.ErrState, 3)
	if len(s.Procs) > 0 || s.Id != 0 {
		t.Errorf("F1: Decode = %v beside an error", s)
	}
}

// TestGrammar: the example 3, and what else is easily let through.
func TestGrammar(t *testing.T) {
	for _, x := range []struct {
		kind  int
		tags  []int
		err   error
		place int
	}{
		{1, []int{1, 3, 4, 5, 6, 7, 8, 9}, nil, -1}, {1, []int{1, 2, 4, 5, 6, 7}, api.ErrTag, 1}, {2, []int{1, 4, 5, 6, 7}, api.ErrTag, 1},
		{1, []int{1, 4, 5, 6}, api.ErrShort, 4}, {1, nil, api.ErrShort, 0}, {1, []int{1, 4, 5, 6, 7, 9, 8}, api.ErrTag, 6},
		{2, []int{1, 2, 4, 5, 6, 7, 10, 10}, nil, -1}, {3, nil, api.ErrKind, -1}, {3, []int{1, 4, 5, 6, 7}, api.ErrKind, -1},
		{0, []int{1, 4, 5, 6, 7}, api.ErrKind, -1}, {-1, nil, api.ErrKind, -1}, {math.MaxInt, nil, api.ErrKind, -1}, {math.MinInt, nil, api.ErrKind, -1}, {257, nil, api.ErrKind, -1},
		{2, nil, api.ErrShort, 0}, {2, []int{1}, api.ErrShort, 1}, {2, []int{1, 2}, api.ErrShort, 2}, {1, []int{1}, api.ErrShort, 1}, {1, []int{1, 3, 3}, api.ErrShort, 3},
		{1, []int{1, 4, 5, 6, 7}, nil, -1}, {2, []int{1, 2, 4, 5, 6, 7}, nil, -1}, {1, []int{1, 4, 5, 6, 7, 8, 8, 9, 9}, nil, -1}, {1, []int{1, 4, 5, 6, 7, 9}, nil, -1},
		{1, []int{1, 4, 5, 6, 7, 10}, api.ErrTag, 5}, {2, []int{1, 2, 4, 5, 6, 7, 9}, api.ErrTag, 6}, {2, []int{1, 2, 4, 5, 6, 7, 10, 8}, api.ErrTag, 7},
		{1, []int{1, 1, 4, 5, 6, 7}, api.ErrTag, 1}, {1, []int{1, 4, 4, 5, 6, 7}, api.ErrTag, 2}, {1, []int{1, 4, 3, 5, 6, 7}, api.ErrTag, 2}, {1, []int{1, 4, 5, 6, 7, 7}, api.ErrTag, 5},
		{1, []int{3, 4, 5, 6, 7}, api.ErrTag, 0}, {2, []int{2, 1, 4, 5, 6, 7}, api.ErrTag, 0}, {2, []int{1, 2, 2, 4, 5, 6, 7}, api.ErrTag, 2}, {2, []int{1, 3, 2, 4, 5, 6, 7}, api.ErrTag, 1},
		{1, []int{1, 5, 4, 6, 7}, api.ErrTag, 1}, {1, []int{1, 4, 6, 5, 7}, api.ErrTag, 2}, {1, []int{1, 4, 5, 7, 6}, api.ErrTag, 3}, {1, []int{1, 4, 5, 6, 8}, api.ErrTag, 4},
		{1, []int{0}, api.ErrTag, 0}, {1, []int{1, -1}, api.ErrTag, 1}, {1, []int{1, 4, 5, 6, 7, 11}, api.ErrTag, 5}, {1, []int{257}, api.ErrTag, 0}, {1, []int{1, 4, 5, 6, 7, 265}, api.ErrTag, 5},
		{1, []int{1, 4, 5, 9, 0}, api.ErrTag, 3},
	} {
		want(t, "P16.1: Grammar", image.Grammar(x.kind, recsOf(x.tags...)), x.err, x.place)
		if t.Failed() {
			t.Fatalf("kind %d, tags %v", x.kind, x.tags)
		}
	}
	bodies := recsOf(1, 3, 4, 5, 6, 7, 8, 9)
	for i := range bodies {
		bodies[i].Body = make([]byte, 70000)
	}
	wantNone(t, "P16.1: Grammar of bodies that are wrong", image.Grammar(1, bodies))
}

// TestRecordsPlaces: a fault of the records tells its place in the whole; one of the grammar the record's number.
func TestRecordsPlaces(t *testing.T) {
	fails := func(what string, b []byte, wanted error, place int) {
		t.Helper()
		recs, err := image.Records(b)
		want(t, "P16.1: Records of "+what, err, wanted, place)
		if len(recs) > 0 {
			t.Errorf("F1: Records of %s: %v beside an error", what, recs)
		}
	}
	// with: an image of these bytes behind the head.
	with := func(recs ...byte) []byte {
		b := headed("FERY", 1, 1, uint32(24+len(recs)), 0, 0)[:20]
		return sealed(append(b, recs...))
	}
	fails("no record", with(), api.ErrShort, 0)
	fails("a tag alone", with(1), api.ErrShort, 20)
	fails("a head that is cut", with(4, 0), api.ErrShort, 20)
	fails("the tag 0", with(0, 0, 0), api.ErrTag, 20)
	fails("a body that is cut", with(4, 0, 1), api.ErrLength, 21)
	fails("a body that is cut behind a record", with(4, 0, 1, 9, 5, 255, 255, 7, 7), api.ErrLength, 25)
	fails("the tag 0 behind a record", with(4, 0, 1, 9, 0, 0, 0), api.ErrTag, 24)
	fails("a head that is cut behind a record", with(4, 0, 1, 9, 5, 0), api.ErrShort, 24)
	fails("a record that can't stand there", with(4, 0, 1, 9), api.ErrTag, 0)
	fails("records that end too early", with(1, 0, 0, 4, 0, 0), api.ErrShort, 2)
	fails("the example's tag 1 as 0", turned(20, 0), api.ErrTag, 20)
	fails("the example's tag 1 as 2", turned(20, 2), api.ErrTag, 0)
	fails("the example as a delta", turned(7, 2), api.ErrTag, 1)
	fails("the example's last length, greater", turned(119, 0x42), api.ErrLength, 118)
	fails("the example's last length, far greater", turned(118, 0x42), api.ErrLength, 118)
	fails("the example's last length, less", turned(119, 0x3e), api.ErrTag, 182)
	recs, err := image.Records(with(1, 0, 0, 4, 0, 2, 255, 0, 5, 0, 1, 9, 6, 0, 1, 7, 7, 0, 0, 8, 0, 0))
	wantNone(t, "P16.1: Records whose bodies are wrong", err)
	wantRecs(t, "P16.1: Records whose bodies are wrong", recs, []wire.Rec{{Tag: 1}, {Tag: 4, Body: []byte{255, 0}}, {Tag: 5, Body: []byte{9}}, {Tag: 6, Body: []byte{7}}, {Tag: 7}, {Tag: 8}})
}

// TestPackErrors: every error and their order.
func TestPackErrors(t *testing.T) {
	long := func(n int) []wire.Rec {
		recs := leastRecs()
		recs[1].Body = make([]byte, n)
		return recs
	}
	for _, x := range []struct {
		kind, id int
		recs     []wire.Rec
		err      error
		place    int
	}{
		{3, -1, long(65536), api.ErrKind, -1}, {1, -1, long(65536)[:4], api.ErrShort, 4}, {2, -1, long(65536), api.ErrTag, 1}, {1, -1, append(long(65536), wire.Rec{Tag: 256}), api.ErrTag, 5},
		{1, -1, long(65536), api.ErrRange, -1}, {1, 4294967296, long(65536), api.ErrRange, -1}, {1, math.MinInt, leastRecs(), api.ErrRange, -1}, {1, math.MaxInt, leastRecs(), api.ErrRange, -1}, {1, 4294967296, leastRecs(), api.ErrRange, -1},
		{1, 4294967295, long(65536), api.ErrLength, -1}, {1, 0, long(65535), api.ErrSize, -1}, {1, 0, long(4050), api.ErrSize, -1}, {1, 0, long(4049), nil, -1}, {1, 4294967295, leastRecs(), nil, -1},
		{1, 0, append(long(4050), wire.Rec{Tag: 9, Body: make([]byte, 65536)}), api.ErrLength, -1}, {1, 0, append(long(4046), wire.Rec{Tag: 9}), nil, -1}, {1, 0, append(long(4047), wire.Rec{Tag: 9}), api.ErrSize, -1},
		{1, 0, append(leastRecs(), slices.Repeat([]wire.Rec{{Tag: 9, Body: make([]byte, 65535)}}, 100000)...), api.ErrSize, -1}, {1, 0, append(leastRecs(), slices.Repeat([]wire.Rec{{Tag: 8}}, 1000000)...), api.ErrSize, -1},
	} {
		b, err := image.Pack(x.kind, math.MaxUint32, x.id, x.recs)
		want(t, "P16.1: Pack", err, x.err, x.place)
		if (len(b) > 0) != (x.err == nil) {
			t.Errorf("P16.1: Pack: %d bytes beside %v", len(b), err)
		}
		if x.err == nil {
			recs, err := image.Records(b)
			wantNone(t, "P16.1: Records of Pack", err)
			wantRecs(t, "P16.1: Records of Pack", recs, x.recs)
		}
	}
}

// someRecs: records that may stand in an image of that kind, with any bodies.
func someRecs(r *rand.Rand, kind int) []wire.Rec {
	var recs []wire.Rec
	add := func(tag, count int) {
		for range count {
			recs = append(recs, wire.Rec{Tag: tag, Body: someBytes(r, one(r, 0, 1, 8, 65, 68, r.Intn(300)))})
		}
	}
	many := func() int { return one(r, 0, 1, 2, 3) }
	add(1, 1)
	add(2, kind-1)
	add(3, many())
	for tag := 4; tag <= 7; tag++ {
		add(tag, 1)
	}
	add(8, many())
	add(8+kind, many())
	return recs
}

// TestThereAndBackOfRecords: Pack and Records undo one another.
func TestThereAndBackOfRecords(t *testing.T) {
	r := rand.New(rand.NewSource(161))
	taken := 0
	for range 5000 {
		kind, sum, id := 1+r.Intn(2), r.Uint32(), int(one(r, 0, math.MaxUint32, r.Uint32()))
		recs := roomy(someRecs(r, kind))
		look := kept(t, recs)
		b, err := image.Pack(kind, sum, id, recs)
		look("Pack")
		size := 24
		for _, x := range recs {
			size += 3 + len(x.Body)
		}
		if size > 4096 {
			want(t, "P16.1: Pack", err, api.ErrSize, -1)
			continue
		}
		taken++
		wantNone(t, "P16.1: Pack", err)
		b = roomy(b)
		lookBytes := kept(t, b)
		h, err := image.Look(b)
		wantNone(t, "P16.1: Look", err)
		if h != (image.Head{Kind: kind, Length: size, Id: id, PlanSum: sum, Sum: crc32.ChecksumIEEE(b[:size-4])}) {
			t.Fatalf("P16.1: Look = %+v", h)
		}
		got, err := image.Records(b)
		wantNone(t, "P16.1: Records", err)
		wantRecs(t, "P16.1: Records", got, recs)
		again, err := image.Pack(h.Kind, h.PlanSum, h.Id, got)
		wantNone(t, "P16.1: Pack of Records", err)
		if !slices.Equal(again, b) {
			t.Fatalf("P16.1: Pack of Records = %x, want %x", again, b)
		}
		other, _ := image.Records(b)
		lookBytes("Look and Records")
		wantApart(t, "Pack and Records", b, recs, got, again, other)
	}
	if taken < 1000 {
		t.Errorf("only %d were small enough", taken)
	}
}

// TestBursts: wherever a burst lies, Look tells it by the sum, and every strict beginning is refused.
func TestBursts(t *testing.T) {
	r := rand.New(rand.NewSource(162))
	for _, b := range [][]byte{sealed(exampleBytes()), headed("FERY", 1, 1, 47, 5, 6), headed("FERY", 1, 2, 47, 5, 6), encode(t, great(), fullest(great()))} {
		masks := 40
		if len(b) > 1000 {
			masks = 2
		}
		for at := range 8 * len(b) {
			for n := range masks {
				mask := one(r, 1, 3, 0x80000001, math.MaxUint32, r.Uint32())
				if n == 0 {
					mask = 1
				}
				bad, err := crc.Turn(b, at, mask)
				if err != nil {
					continue
				}
				_, err = image.Look(bad)
				want(t, "P16.4: Look of a burst", err, api.ErrSum, -1)
				_, err = image.Records(bad)
				want(t, "P16.4: Records of a burst", err, api.ErrSum, -1)
			}
		}
		for n := range b {
			_, err := image.Look(b[:n])
			_, er := image.Records(b[:n])
			if err == nil || er == nil {
				t.Errorf("P16.4: the first %d of %d bytes are taken", n, len(b))
			}
		}
	}
}

// TestBurstsDecoded: Decode refuses them too, with the same error.
func TestBurstsDecoded(t *testing.T) {
	b := sealed(exampleBytes())
	for at := range 8*len(b) - 31 {
		bad, err := crc.Turn(b, at, 0x80000001|uint32(at)<<7)
		wantNone(t, "Turn", err)
		_, err = image.Decode(examplePlan(), bad)
		want(t, "P16.4: Decode of a burst", err, api.ErrSum, -1)
	}
	for n := range b {
		if _, err := image.Decode(examplePlan(), b[:n]); err == nil {
			t.Errorf("P16.4: Decode takes the first %d bytes", n)
		}
	}
}
