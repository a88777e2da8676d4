package wire_test

import (
	"bytes"
	"math/rand"
	"strings"
	"testing"

	"ferry/api"
	"ferry/wire"
)

// sameRecs compares records; nil and empty bodies are one.
func sameRecs(a, b []wire.Rec) bool {
	if len(a) != len(b) {
		return false
	}
	for i := range a {
		if a[i].Tag != b[i].Tag || !bytes.Equal(a[i].Body, b[i].Body) {
			return false
		}
	}
	return true
}

func TestJoinAndSplit(t *testing.T) {
	for _, recs := range [][]wire.Rec{nil, {}} {
		if b, err := wire.Join(recs); len(b) != 0 || err != nil {
			t.Errorf("P2.4: Join of none = %x, %v", b, err)
		}
	}
	for _, b := range [][]byte{nil, {}} {
		if recs, err := wire.Split(b); len(recs) != 0 || err != nil {
			t.Errorf("P2.4: Split of no bytes = %v, %v", recs, err)
		}
	}
	recs := []wire.Rec{{5, []byte("AB")}, {6, nil}, {255, bytes.Repeat([]byte("x"), 65535)}, {5, []byte{0}}}
	b, err := wire.Join(recs)
	if want := "\x05\x00\x02AB\x06\x00\x00\xff\xff\xff" + strings.Repeat("x", 65535) + "\x05\x00\x01\x00"; err != nil || string(b) != want {
		t.Errorf("P2.4: Join = %.40x, %v", b, err)
	}
	if got, err := wire.Split(b); err != nil || !sameRecs(got, recs) {
		t.Errorf("P2.4: Split(Join(recs)): %v", err)
	}
}

func TestJoinAndSplitOfRandomRecords(t *testing.T) {
	r := rand.New(rand.NewSource(41))
	taken := 0
	for round := 0; round < 3000; round++ {
		var recs []wire.Rec
		for range r.Intn(6) {
			recs = append(recs, wire.Rec{Tag: 1 + r.Intn(255), Body: randomBytes(r, r.Intn(4))})
		}
		b, err := wire.Join(recs)
		if err != nil {
			t.Fatal(err)
		}
		if got, err := wire.Split(b); err != nil || !sameRecs(got, recs) {
			t.Fatalf("P2.4: Split(%x) = %v, %v", b, got, err)
		}
		b = likelyBytes(r, r.Intn(12))
		got, err := wire.Split(b)
		if err != nil {
			continue
		}
		taken++
		if back, err := wire.Join(got); err != nil || !bytes.Equal(back, b) {
			t.Fatalf("P2.4: Join(Split(%x)) = %x, %v", b, back, err)
		}
	}
	if taken < 100 {
		t.Errorf("P2.4: only %d lists were taken by Split", taken)
	}
}

func TestJoinRefuses(t *testing.T) {
	long := make([]byte, 65536)
	for _, c := range []struct {
		recs  []wire.Rec
		want  error
		place int
	}{
		{[]wire.Rec{{0, nil}}, api.ErrTag, 0}, {[]wire.Rec{{-1, nil}}, api.ErrTag, 0}, {[]wire.Rec{{256, long}}, api.ErrTag, 0},
		{[]wire.Rec{{1, nil}, {999, nil}}, api.ErrTag, 3}, {[]wire.Rec{{1, []byte("ab")}, {2, long}, {0, nil}}, api.ErrLength, 5},
	} {
		b, err := wire.Join(c.recs)
		wantAt(t, "P2.4: Join", err, c.want, c.place)
		if b != nil {
			t.Errorf("P2.4: Join = %x beside an error", b)
		}
	}
}

func TestSplitRefuses(t *testing.T) {
	for _, c := range []struct {
		b     string
		want  error
		place int
	}{
		{"\x05\x00\x03AB", api.ErrLength, 1}, {"\x05\x00", api.ErrShort, 0}, {"\x05", api.ErrShort, 0}, {"\x00\x00\x00", api.ErrTag, 0},
		{"\x01\x00\x00\x02\xff\xff", api.ErrLength, 4}, {"\x01\x00\x01A\x00\x00\x00", api.ErrTag, 4}, {"\x01\x00\x01A\x01\x00", api.ErrShort, 4},
	} {
		recs, err := wire.Split([]byte(c.b))
		wantAt(t, "P2.4: Split", err, c.want, c.place)
		if recs != nil {
			t.Errorf("P2.4: Split(%x) = %v beside an error", c.b, recs)
		}
	}
}

func TestExpect(t *testing.T) {
	b := []byte("\x05\x00\x01A\x06\x00\x00")
	got, err := wire.Expect(b, 5, 6)
	if err != nil || len(got) != 2 || string(got[0]) != "A" || len(got[1]) != 0 {
		t.Errorf("P2.4: Expect = %q, %v", got, err)
	}
	if got, err := wire.Expect(nil); len(got) != 0 || err != nil {
		t.Errorf("P2.4: Expect of nothing = %q, %v", got, err)
	}
	for _, c := range []struct {
		b     string
		tags  []int
		want  error
		place int
	}{
		{string(b), []int{5}, api.ErrRest, 4}, {string(b), []int{5, 7}, api.ErrTag, 4}, {string(b), []int{5, 6, 7}, api.ErrShort, 7},
		{string(b), nil, api.ErrRest, 0}, {string(b), []int{6, 5}, api.ErrTag, 0}, {string(b), []int{0}, api.ErrTag, 0}, {string(b), []int{261, 6}, api.ErrTag, 0},
		{"", []int{5}, api.ErrShort, 0}, {"\x05\x00\x02A", []int{5, 9}, api.ErrLength, 1}, {"\x05\x00\x00\x06\x00\x01", []int{5, 6}, api.ErrLength, 4},
		{"\x00\x00\x00", []int{0}, api.ErrTag, 0}, {"\x05\x00\x00\x01", []int{5}, api.ErrRest, 3}, {"\x05\x00\x00\x06", []int{5, 6}, api.ErrShort, 3},
	} {
		got, err := wire.Expect([]byte(c.b), c.tags...)
		wantAt(t, "P2.4: Expect", err, c.want, c.place)
		if got != nil {
			t.Errorf("P2.4: Expect(%x, %v) = %q beside an error", c.b, c.tags, got)
		}
	}
}

// TestListsShareNothing spoils one body with all its room, and looks at the others and at what was handed in.
func TestListsShareNothing(t *testing.T) {
	b := append(make([]byte, 0, 32), "\x05\x00\x02AB\x06\x00\x02CD"...)
	whole := bytes.Clone(b[:32])
	tags := append(make([]int, 0, 8), 5, 6)
	recs, err := wire.Split(b)
	if err != nil {
		t.Fatal(err)
	}
	bodies, err := wire.Expect(b, tags...)
	if err != nil {
		t.Fatal(err)
	}
	joined, _ := wire.Join(recs)
	spoil(joined)
	spoil(bodies[0])
	spoil(recs[0].Body)
	if string(recs[1].Body) != "CD" || string(bodies[1]) != "CD" {
		t.Errorf("R2: two bodies share memory: %q, %q", recs[1].Body, bodies[1])
	}
	spoil(bodies[1])
	spoil(recs[1].Body)
	if !bytes.Equal(b[:32], whole) || tags[0] != 5 || tags[1] != 6 {
		t.Error("R2: what was handed in is changed")
	}
}

func TestHex(t *testing.T) {
	for _, c := range []struct{ b, want string }{{"", ""}, {"\x0f\xa0", "0fa0"}, {"\x00\xff\x9a", "00ff9a"}, {"\x01\x23\x45\x67\x89\xab\xcd\xef", "0123456789abcdef"}} {
		if got := wire.Hex([]byte(c.b)); got != c.want {
			t.Errorf("P2.5: Hex(%x) = %q", c.b, got)
		}
		if got, err := wire.Unhex(c.want); err != nil || string(got) != c.b {
			t.Errorf("P2.5: Unhex(%q) = %x, %v", c.want, got, err)
		}
	}
	r := rand.New(rand.NewSource(42))
	for range 200 {
		b := randomBytes(r, r.Intn(40))
		whole := bytes.Clone(b[:cap(b)])
		s := wire.Hex(b)
		got, err := wire.Unhex(s)
		if err != nil || !bytes.Equal(got, b) || len(s) != 2*len(b) {
			t.Errorf("P2.5: Unhex(Hex(%x)) = %x, %v", b, got, err)
		}
		if !bytes.Equal(b[:cap(b)], whole) {
			t.Error("R2: Hex changes what it is handed")
		}
	}
}

func TestUnhexRefuses(t *testing.T) {
	for _, c := range []struct {
		s     string
		want  error
		place int
	}{
		{"0fA0", api.ErrText, 2}, {"0fa", api.ErrShort, 3}, {"0", api.ErrShort, 1}, {"0fg", api.ErrText, 2}, {"0f0G0", api.ErrText, 3},
		{" 00", api.ErrText, 0}, {"00 ", api.ErrText, 2}, {"0x00", api.ErrText, 1}, {"é0", api.ErrText, 0}, {"00\n", api.ErrText, 2}, {"x", api.ErrText, 0},
	} {
		b, err := wire.Unhex(c.s)
		wantAt(t, "P2.5: Unhex", err, c.want, c.place)
		if b != nil {
			t.Errorf("P2.5: Unhex(%q) = %x beside an error", c.s, b)
		}
	}
	for i := range 256 {
		digit := strings.IndexByte("0123456789abcdef", byte(i)) >= 0
		b, err := wire.Unhex(string([]byte{'0', byte(i)}))
		if digit != (err == nil) || digit && wire.Hex(b) != "0"+string(rune(i)) {
			t.Errorf("P2.5: Unhex of the byte %d: %x, %v", i, b, err)
		}
		if !digit {
			wantAt(t, "P2.5: Unhex of no digit", err, api.ErrText, 1)
		}
	}
}
