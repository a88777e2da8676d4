package chunk_test

import (
	"fmt"
	"math"
	"math/rand"
	"slices"
	"testing"

	"ferry/api"
	"ferry/chunk"
)

// counting: an image whose pieces are all unlike.
func counting(size int) []byte {
	b := make([]byte, size)
	for i := range b {
		b[i] = byte(i + i/128)
	}
	return b
}

// TestCut: the example 3, and images of every length.
func TestCut(t *testing.T) {
	image := counting(4097)
	of := edited(piece(0, 1, 1, 0), func(n *api.Note) { n.Part, n.Stage = 7, api.ImageDelta })
	for size := 1; size <= 4096; size++ {
		handed := image[:size]
		notes := cut(t, of, handed)
		var joined []byte
		for i, n := range notes {
			want := of
			want.Index, want.Total, want.Data = i, (size+127)/128, string(image[128*i:min(128*i+128, size)])
			if n != want || chunk.Check(n) != nil {
				t.Fatalf("P20.2: Cut of %d bytes: piece %d is %v, want %v", size, i, n, want)
			}
			joined = append(joined, n.Data...)
		}
		if !slices.Equal(joined, handed) || len(notes) != (size+127)/128 {
			t.Fatalf("P20.2: Cut of %d bytes: %d notes with %d bytes", size, len(notes), len(joined))
		}
	}
	for size, want := range map[int]int{300: 3, 256: 2, 257: 3, 4096: 32, 1: 1, 128: 1, 129: 2} {
		if n := len(cut(t, of, image[:size])); n != want {
			t.Errorf("P20.2: Cut of %d bytes: %d notes, want %d", size, n, want)
		}
	}
}

// TestCutRefuses: arguments ahead of the size.
func TestCutRefuses(t *testing.T) {
	refuse := func(part int, x api.Xid, stage int, image []byte, want error) {
		t.Helper()
		notes, err := chunk.Cut(part, x, stage, image)
		if wantBare(t, fmt.Sprintf("P20.2: Cut(%d, %v, %d)", part, x, stage), err, want); notes != nil {
			t.Errorf("P20.2: Cut: %d notes beside an error", len(notes))
		}
	}
	for _, image := range [][]byte{nil, {}, make([]byte, 4097), make([]byte, 1<<20)} {
		refuse(2, exampleXid(), 1, image, api.ErrSize)
	}
	for _, image := range [][]byte{nil, counting(300), make([]byte, 4097)} {
		for _, v := range edges() {
			if v < 0 || v > 7 {
				refuse(v, exampleXid(), 1, image, api.ErrArg)
			}
			if v != 1 && v != 2 {
				refuse(2, exampleXid(), v, image, api.ErrArg)
			}
			if v < 1 || v > 2147483647 {
				refuse(2, api.Xid{Boot: v, Peer: 3, Num: 2}, 1, image, api.ErrArg)
				refuse(2, api.Xid{Boot: 1, Peer: v, Num: 2}, 1, image, api.ErrArg)
				refuse(2, api.Xid{Boot: 1, Peer: 3, Num: v}, 1, image, api.ErrArg)
			}
		}
	}
	most := api.Xid{Boot: 2147483647, Peer: 2147483647, Num: 2147483647}
	for part := range 8 {
		for _, x := range []api.Xid{{Boot: 1, Peer: 1, Num: 1}, most} {
			for stage := 1; stage <= 2; stage++ {
				cut(t, api.Note{Part: part, Xid: x, Stage: stage}, []byte{1})
			}
		}
	}
}

// TestExampleStage: the example 4.
func TestExampleStage(t *testing.T) {
	image := counting(300)
	notes := cut(t, piece(0, 1, 1, 0), image)
	s := begin(t, notes[1])
	wantStage(t, "P20.2: Begin", s, chunk.Stage{Part: 2, Stage: 1, Total: 3, Xid: exampleXid(), Pieces: []string{"", notes[1].Data, ""}})
	wantMissing(t, s, 0, 2)
	wantWhole(t, s, nil)
	wantStage(t, "P20.2: Add again", wantAdded(t, s, notes[1], false), s)
	wantNotAdded(t, "P20.2: other bytes", s, piece(1, 3, 128, 'o'), api.ErrBusy)
	wantNotAdded(t, "P20.2: piece 0 of 2", s, piece(0, 2, 128, 'o'), api.ErrBase)
	other := edited(notes[0], func(n *api.Note) { n.Xid = api.Xid{Boot: 1, Peer: 3, Num: 4} })
	wantNotAdded(t, "P20.2: another Xid", s, other, api.ErrBase)
	s = wantAdded(t, s, notes[0], true)
	wantMissing(t, s, 2)
	wantWhole(t, s, nil)
	s = wantAdded(t, s, notes[2], true)
	wantMissing(t, s)
	wantWhole(t, s, image)
	for _, n := range notes {
		wantStage(t, "P20.3: Add to what is whole", wantAdded(t, s, n, false), s)
	}
	// The last piece may have come with another length, which are other bytes.
	wantNotAdded(t, "P20.2: a shorter last piece", s, edited(notes[2], func(n *api.Note) { n.Data = n.Data[:43] }), api.ErrBusy)
	wantNotAdded(t, "P20.2: a longer last piece", s, edited(notes[2], func(n *api.Note) { n.Data += "x" }), api.ErrBusy)
}

// TestBegin: each piece of images of each number of pieces; and what isn't a piece.
func TestBegin(t *testing.T) {
	for total := 1; total <= 32; total++ {
		for index := range total {
			n := piece(index, total, 128, byte(index))
			s := begin(t, n)
			want := chunk.Stage{Part: 2, Stage: 1, Total: total, Xid: exampleXid(), Pieces: make([]string, total)}
			want.Pieces[index] = n.Data
			wantStage(t, "P20.2: Begin", s, want)
			if !chunk.Good(s) {
				t.Errorf("P20.2: Good(%v) is false", s)
			}
			var image []byte
			if total == 1 {
				image = []byte(n.Data)
			}
			wantWhole(t, s, image)
		}
	}
	for kind := -1; kind <= 9; kind++ {
		for _, n := range []api.Note{base(kind), edited(base(kind), func(n *api.Note) { n.Part = 8 })} {
			want := noteError(n)
			if want == nil && kind != api.MsgChunk {
				want = api.ErrKind
			}
			s, err := chunk.Begin(n)
			if wantBare(t, "P20.2: Begin", err, want); want != nil {
				wantStage(t, "P20.2: Begin beside an error", s, chunk.Stage{})
			}
			if want != nil {
				wantNotAdded(t, "P20.2: Add", begin(t, base(1)), n, want)
			}
		}
	}
}

// goodStage: what the chapter asks of a stage: a note for each piece that has come would be in form.
func goodStage(s chunk.Stage) bool {
	n := api.Note{Kind: api.MsgAck, Part: s.Part, Xid: s.Xid, Stage: s.Stage, Total: s.Total}
	if noteError(n) != nil || len(s.Pieces) != s.Total {
		return false
	}
	n.Kind = api.MsgChunk
	for i, data := range s.Pieces {
		n.Index, n.Data = i, data
		if data != "" && noteError(n) != nil {
			return false
		}
	}
	return true
}

// wantJudged holds Good, and the calls that ask it first, against the second reading.
func wantJudged(t *testing.T, s chunk.Stage) {
	t.Helper()
	want := goodStage(s)
	if chunk.Good(s) != want {
		t.Errorf("P20.2: Good(%v) is %v", s, !want)
	}
	if want {
		_, err := chunk.Missing(s)
		wantBare(t, "P20.2: Missing", err, nil)
		_, _, err = chunk.Whole(s)
		wantBare(t, "P20.2: Whole", err, nil)
		return
	}
	missing, err := chunk.Missing(s)
	wantBare(t, "P20.2: Missing", err, api.ErrState)
	b, is, err := chunk.Whole(s)
	if wantBare(t, "P20.2: Whole", err, api.ErrState); len(missing) > 0 || len(b) > 0 || is {
		t.Errorf("P20.2: %v, %x, %v beside an error", missing, b, is)
	}
	for _, n := range []api.Note{piece(0, 1, 1, 'a'), {}, piece(9, 9, 0, 'a'), exampleCommit()} {
		wantNotAdded(t, "P20.2: a stage that isn't in form", s, n, api.ErrState)
	}
}

func changed(s chunk.Stage, edit func(s *chunk.Stage)) chunk.Stage {
	s.Pieces = slices.Clone(s.Pieces)
	edit(&s)
	return s
}

// TestGood: each field of a stage at its edges, and every length of every piece.
func TestGood(t *testing.T) {
	s := begin(t, piece(1, 3, 128, 'g'))
	wantJudged(t, s)
	wantJudged(t, chunk.Stage{})
	for _, v := range edges() {
		for _, edit := range []func(s *chunk.Stage){
			func(s *chunk.Stage) { s.Part = v }, func(s *chunk.Stage) { s.Stage = v }, func(s *chunk.Stage) { s.Total = v },
			func(s *chunk.Stage) { s.Xid.Boot = v }, func(s *chunk.Stage) { s.Xid.Peer = v }, func(s *chunk.Stage) { s.Xid.Num = v },
		} {
			wantJudged(t, changed(s, edit))
		}
	}
	for total := -1; total <= 34; total++ {
		for pieces := range 36 {
			wantJudged(t, changed(s, func(s *chunk.Stage) { s.Total, s.Pieces = total, make([]string, pieces) }))
			if pieces == 0 {
				wantJudged(t, changed(s, func(s *chunk.Stage) { s.Total, s.Pieces = total, nil }))
			}
		}
	}
	for i := range s.Pieces {
		for size := range 260 {
			wantJudged(t, changed(s, func(s *chunk.Stage) { s.Pieces[i] = fill(size, 'g') }))
		}
		wantJudged(t, changed(s, func(s *chunk.Stage) { s.Pieces[i] = fill(1<<20, 'g') }))
	}
	wantJudged(t, changed(s, func(s *chunk.Stage) { s.Total, s.Pieces = math.MaxInt, make([]string, 1<<20) }))
	empty := changed(s, func(s *chunk.Stage) { s.Pieces = make([]string, 3) })
	wantMissing(t, empty, 0, 1, 2)
	wantWhole(t, empty, nil)
	wantStage(t, "P20.2: Add to an empty stage", wantAdded(t, empty, piece(1, 3, 128, 'g'), true), s)
}

// TestSomeStages: any stages in form and beside it.
func TestSomeStages(t *testing.T) {
	r := rand.New(rand.NewSource(207))
	good := 0
	for range 20000 {
		s := chunk.Stage{Part: r.Intn(8), Stage: 1 + r.Intn(2), Total: 1 + r.Intn(5), Xid: someXid(r)}
		for range s.Total + one(r, 0, 0, 0, 0, 0, 0, -1, 1) {
			s.Pieces = append(s.Pieces, fill(one(r, 0, 128, 128, 128, 128, 128, 128, 128, 127, 129), 's'))
		}
		if r.Intn(2) == 0 && len(s.Pieces) > 0 {
			s.Pieces[len(s.Pieces)-1] = fill(r.Intn(131), 's')
		}
		if r.Intn(8) == 0 {
			*one(r, &s.Part, &s.Stage, &s.Total, &s.Xid.Boot, &s.Xid.Peer, &s.Xid.Num) = one(r, edges()...)
		}
		if goodStage(s) {
			good++
		}
		wantJudged(t, s)
	}
	if good < 5000 || good > 15000 {
		t.Errorf("%d stages of 20000 were in form", good)
	}
}

// TestOtherPieces: P20.4, of each thing that may be another one; ahead of whether the piece has come.
func TestOtherPieces(t *testing.T) {
	s := begin(t, piece(1, 3, 128, 'a'))
	whole := wantAdded(t, wantAdded(t, s, piece(0, 3, 128, 'a'), true), piece(2, 3, 128, 'a'), true)
	for index := range 3 {
		for _, letter := range []byte("ab") {
			n := piece(index, 3, 128, letter)
			for _, other := range []api.Note{
				edited(n, func(n *api.Note) { n.Part = 1 }), edited(n, func(n *api.Note) { n.Xid.Boot = 2 }), edited(n, func(n *api.Note) { n.Xid.Peer = 2 }),
				edited(n, func(n *api.Note) { n.Xid.Num = 3 }), edited(n, func(n *api.Note) { n.Stage = 2 }), edited(n, func(n *api.Note) { n.Total = 4 }), edited(n, func(n *api.Note) { n.Total = 32 }),
				edited(n, func(n *api.Note) { n.Part, n.Xid.Boot, n.Xid.Peer = 3, 2, 2 }),
			} {
				wantNotAdded(t, "P20.4: a piece of something else", s, other, api.ErrBase)
				wantNotAdded(t, "P20.4: a piece of something else", whole, other, api.ErrBase)
			}
		}
	}
	wantNotAdded(t, "P20.4: a piece that the stage has no place for", s, piece(31, 32, 128, 'a'), api.ErrBase)
	wantNotAdded(t, "P20.2: that isn't in form comes first", s, edited(piece(1, 3, 128, 'b'), func(n *api.Note) { n.Part = 8 }), api.ErrRange)
}

// TestAllOrders: P20.3, of every row of up to six pieces of an image of one to three.
func TestAllOrders(t *testing.T) {
	for total := 1; total <= 3; total++ {
		image := counting(128*total - 9)
		notes := cut(t, piece(0, 1, 1, 0), image)
		var follow func(s chunk.Stage, came, depth int)
		follow = func(s chunk.Stage, came, depth int) {
			var missing []int
			for i := range total {
				if came>>i&1 == 0 {
					missing = append(missing, i)
				}
			}
			wantMissing(t, s, missing...)
			if len(missing) == 0 {
				wantWhole(t, s, image)
			} else {
				wantWhole(t, s, nil)
			}
			for i, n := range notes {
				if depth < 6 {
					follow(wantAdded(t, s, n, came>>i&1 == 0), came|1<<i, depth+1)
				}
			}
		}
		for i, n := range notes {
			follow(begin(t, n), 1<<i, 1)
		}
	}
}

// TestSomeOrders: P20.3 and P20.4, of rows of pieces of any image, among them pieces of others, spoilt ones, and other notes, all of them through their bytes.
func TestSomeOrders(t *testing.T) {
	r := rand.New(rand.NewSource(208))
	wholes, refused := 0, map[int]int{}
	for range 300 {
		image := someBytes(r, one(r, 1, 128, 129, 4096, 1+r.Intn(4096)))
		notes := cut(t, api.Note{Part: r.Intn(8), Xid: someXid(r), Stage: 1 + r.Intn(2)}, image)
		came := map[int]bool{}
		s := begin(t, notes[0])
		came[0] = true
		for range len(notes) * (1 + r.Intn(6)) {
			n := notes[r.Intn(len(notes))]
			want := error(nil)
			switch r.Intn(12) {
			case 0:
				n.Xid.Num = n.Xid.Num%2147483647 + 1
				want = api.ErrBase
			case 1:
				n.Data, want = string(someBytes(r, len(n.Data))), api.ErrBusy
				if !came[n.Index] || n.Data == notes[n.Index].Data {
					continue
				}
			case 2:
				n, want = base(2+r.Intn(6)), api.ErrKind
			}
			n, err := chunk.Get(put(t, n))
			wantBare(t, "P20.1: Get", err, nil)
			if want != nil {
				refused[api.Code(want)]++
				wantNotAdded(t, "P20.4: Add", s, n, want)
				continue
			}
			s = wantAdded(t, s, n, !came[n.Index])
			came[n.Index] = true
		}
		if len(came) == len(notes) {
			wholes++
			wantWhole(t, s, image)
		} else {
			wantWhole(t, s, nil)
		}
	}
	if wholes < 50 || wholes > 250 || refused[10] < 100 || refused[14] < 100 || refused[7] < 100 {
		t.Errorf("%d of 300 were whole; refused were %v", wholes, refused)
	}
}

// TestMemory: P20.5: what is handed in stays, spare room included; answers are new memory.
func TestMemory(t *testing.T) {
	image := roomy(counting(300))
	look := kept(t, image)
	of := piece(0, 1, 1, 0)
	notes := cut(t, of, image)
	again := cut(t, of, image)
	spoil(again)
	look("Cut")
	spoil(image)
	if n := notes[2]; n.Data != string(counting(300)[256:]) {
		t.Errorf("P20.5: Cut's notes change with the image")
	}
	s := begin(t, notes[1])
	spoil(begin(t, notes[1]).Pieces)
	wantMissing(t, s, 0, 2)
	s.Pieces = roomy(s.Pieces)
	lookStage := kept(t, s.Pieces)
	for _, n := range []api.Note{notes[0], notes[1]} {
		next, _, err := chunk.Add(s, n)
		wantBare(t, "P20.2: Add", err, nil)
		spoil(next.Pieces)
		lookStage("Add")
	}
	wantNotAdded(t, "P20.2: other bytes", s, piece(1, 3, 128, 'o'), api.ErrBusy)
	wantNotAdded(t, "P20.2: another migration", s, piece(1, 4, 128, 'o'), api.ErrBase)
	missing, err := chunk.Missing(s)
	wantBare(t, "P20.2: Missing", err, nil)
	spoil(missing)
	wantMissing(t, s, 0, 2)
	lookStage("Missing")
	whole := wantAdded(t, wantAdded(t, s, notes[0], true), notes[2], true)
	whole.Pieces = roomy(whole.Pieces)
	lookWhole := kept(t, whole.Pieces)
	b, _, err := chunk.Whole(whole)
	wantBare(t, "P20.3: Whole", err, nil)
	spoil(b)
	lookWhole("Whole")
	wantWhole(t, whole, counting(300))
	if !chunk.Good(whole) || !chunk.Good(s) {
		t.Error("P20.2: Good is false")
	}
	lookWhole("Good")
	lookStage("all calls")
}
