package crc_test

import (
	"bytes"
	"errors"
	"hash/crc32"
	"math"
	"math/rand"
	"testing"

	"ferry/api"
	"ferry/crc"
)

// moved is the chapter's rule, word by word.
func moved(reg uint32, b []byte) uint32 {
	for _, c := range b {
		reg ^= uint32(c)
		for i := 0; i < 8; i++ {
			out := reg & 1
			reg >>= 1
			if out == 1 {
				reg ^= 0xEDB88320
			}
		}
	}
	return reg
}

// randomBytes makes n bytes with spare room behind them.
func randomBytes(r *rand.Rand, n int) []byte {
	b := make([]byte, n, n+16)
	r.Read(b[:cap(b)])
	return b
}

// wantErr looks whether err is just that error, without a place.
func wantErr(t *testing.T, what string, err, want error) {
	t.Helper()
	var at *api.At
	if !errors.Is(err, want) || api.Code(err) != api.Code(want) || errors.As(err, &at) {
		t.Errorf("%s: error %v, want %v without a place", what, err, want)
	}
}

func TestSumOfExamples(t *testing.T) {
	for _, c := range []struct {
		b    string
		want uint32
	}{
		{"123456789", 0xCBF43926}, {"", 0}, {"\x00", 0xD202EF8D},
		{"\xff", 0xFF000000}, {"\xff\xff\xff\xff", 0xFFFFFFFF},
	} {
		if got := crc.Sum([]byte(c.b)); got != c.want {
			t.Errorf("P1.1: Sum(%x) = %x, want %x", c.b, got, c.want)
		}
	}
	if got := crc.Sum(nil); got != 0 {
		t.Errorf("P1.1: Sum(nil) = %x", got)
	}
	if got := crc.More(crc.Sum([]byte("1234")), []byte("56789")); got != 0xCBF43926 {
		t.Errorf("P1.1: More = %x", got)
	}
}

func TestSumIsTheRule(t *testing.T) {
	r := rand.New(rand.NewSource(11))
	for i := 0; i < 256; i++ {
		b := []byte{byte(i)}
		if got, want := crc.Sum(b), ^moved(math.MaxUint32, b); got != want {
			t.Errorf("P1.1: Sum(%x) = %x, want %x", b, got, want)
		}
	}
	for n := 0; n < 400; n++ {
		b := randomBytes(r, n)
		if got, want := crc.Sum(b), ^moved(math.MaxUint32, b); got != want || got != crc32.ChecksumIEEE(b) {
			t.Errorf("P1.1: Sum of %d bytes = %x, want %x", n, got, want)
		}
	}
	long := randomBytes(r, 1<<20)
	if got, want := crc.Sum(long), crc32.ChecksumIEEE(long); got != want {
		t.Errorf("P1.1: Sum of a long list = %x, want %x", got, want)
	}
}

func TestMoreGoesOn(t *testing.T) {
	r := rand.New(rand.NewSource(12))
	b := randomBytes(r, 70)
	for cut := 0; cut <= len(b); cut++ {
		if got := crc.More(crc.Sum(b[:cut]), b[cut:]); got != crc.Sum(b) {
			t.Errorf("P1.1: More, cut at %d: %x, want %x", cut, got, crc.Sum(b))
		}
	}
	if crc.More(0, b) != crc.Sum(b) {
		t.Error("P1.1: More(0, b) isn't Sum(b)")
	}
	for _, sum := range []uint32{0, 1, 0x80000000, math.MaxUint32, r.Uint32()} {
		if got := crc.More(sum, nil); got != sum {
			t.Errorf("P1.1: More(%x, none) = %x", sum, got)
		}
		if got, want := crc.More(sum, b), ^moved(^sum, b); got != want {
			t.Errorf("P1.1: More(%x, b) = %x, want %x", sum, got, want)
		}
	}
}

func shift(t *testing.T, reg uint32, n int) uint32 {
	t.Helper()
	got, err := crc.Shift(reg, n)
	if err != nil {
		t.Fatalf("P1.2: Shift(%x, %d): %v", reg, n, err)
	}
	return got
}

func TestShiftIsTheRule(t *testing.T) {
	if got := shift(t, 1, 1); got != 0x77073096 {
		t.Errorf("P1.2: Shift(1, 1) = %x", got)
	}
	r := rand.New(rand.NewSource(13))
	regs := []uint32{0, 1, 2, 0x80, 0x80000000, math.MaxUint32, r.Uint32(), r.Uint32()}
	for _, reg := range regs {
		if shift(t, reg, 0) != reg {
			t.Errorf("P1.2: Shift(%x, 0) isn't the register", reg)
		}
		for n := 0; n < 300; n++ {
			if got, want := shift(t, reg, n), moved(reg, make([]byte, n)); got != want {
				t.Errorf("P1.2: Shift(%x, %d) = %x, want %x", reg, n, got, want)
			}
		}
		if got, want := shift(t, reg, 1<<20+7), moved(reg, make([]byte, 1<<20+7)); got != want {
			t.Errorf("P1.2: Shift(%x, 2^20+7) = %x, want %x", reg, got, want)
		}
	}
}

func TestShiftByGreatNumbers(t *testing.T) {
	r := rand.New(rand.NewSource(14))
	for _, n := range []int{1 << 31, 1 << 40, 1<<62 - 1, 1 << 62, math.MaxInt} {
		if got := shift(t, 0, n); got != 0 {
			t.Errorf("P1.2: Shift(0, %d) = %x", n, got)
		}
		reg := r.Uint32()
		half := n / 2
		if got, want := shift(t, shift(t, reg, half), n-half), shift(t, reg, n); got != want {
			t.Errorf("P1.2: Shift(%x, %d) in two = %x, at once %x", reg, n, got, want)
		}
	}
	// The polynomial is a primitive one: behind 2^32 - 1 moves by a byte every register comes back.
	if got := shift(t, 0x12345678, 1<<32-1); got != 0x12345678 {
		t.Errorf("P1.2: Shift by 2^32 - 1 = %x", got)
	}
}

func TestShiftAndJoinRefuse(t *testing.T) {
	for _, n := range []int{-1, math.MinInt} {
		got, err := crc.Shift(1, n)
		wantErr(t, "P1.2: Shift", err, api.ErrArg)
		if got != 0 {
			t.Errorf("P1.2: Shift(1, %d) = %x beside an error", n, got)
		}
		got, err = crc.Join(1, 2, n)
		wantErr(t, "P1.2: Join", err, api.ErrArg)
		if got != 0 {
			t.Errorf("P1.2: Join(1, 2, %d) = %x beside an error", n, got)
		}
	}
}

func TestJoin(t *testing.T) {
	r := rand.New(rand.NewSource(15))
	lists := [][]byte{[]byte("123456789"), nil, {0}, randomBytes(r, 90)}
	for _, b := range lists {
		for cut := 0; cut <= len(b); cut++ {
			got, err := crc.Join(crc.Sum(b[:cut]), crc.Sum(b[cut:]), len(b)-cut)
			if err != nil || got != crc.Sum(b) {
				t.Errorf("P1.2: Join of %x at %d = %x, %v, want %x", b, cut, got, err, crc.Sum(b))
			}
		}
	}
	for i := 0; i < 50; i++ {
		first, second, n := r.Uint32(), r.Uint32(), r.Int()
		if got, err := crc.Join(first, second, n); err != nil || got != shift(t, first, n)^second {
			t.Errorf("P1.2: Join(%x, %x, %d) = %x, %v", first, second, n, got, err)
		}
	}
}

func TestSealAndOpen(t *testing.T) {
	sealed := []byte("123456789\x26\x39\xf4\xcb")
	if got := crc.Seal([]byte("123456789")); !bytes.Equal(got, sealed) {
		t.Errorf("P1.3: Seal = %x", got)
	}
	if got := crc.Seal(nil); !bytes.Equal(got, make([]byte, 4)) {
		t.Errorf("P1.3: Seal of no bytes = %x", got)
	}
	if got, err := crc.Open(make([]byte, 4)); err != nil || len(got) != 0 {
		t.Errorf("P1.3: Open of four noughts = %x, %v", got, err)
	}
	r := rand.New(rand.NewSource(16))
	for n := 0; n < 100; n++ {
		b := randomBytes(r, n)
		x := crc.Seal(b)
		if len(x) != n+4 {
			t.Errorf("P1.3: Seal of %d bytes has %d", n, len(x))
		}
		got, err := crc.Open(x)
		if err != nil || !bytes.Equal(got, b) {
			t.Errorf("P1.3: Open(Seal(%x)) = %x, %v", b, got, err)
		}
		if !bytes.Equal(crc.Seal(got), x) {
			t.Errorf("P1.3: Seal(Open(%x)) is another one", x)
		}
	}
}

func TestOpenTakesJustWhatIsSealed(t *testing.T) {
	r := rand.New(rand.NewSource(17))
	for i := 0; i < 2000; i++ {
		x := randomBytes(r, 4+r.Intn(8))
		if i%2 == 0 {
			x = crc.Seal(x[:len(x)-4])
		}
		right := bytes.Equal(crc.Seal(x[:len(x)-4]), x)
		got, err := crc.Open(x)
		if right != (err == nil) || right && !bytes.Equal(got, x[:len(x)-4]) {
			t.Errorf("P1.3: Open(%x) = %x, %v", x, got, err)
		}
	}
}

func TestOpenRefuses(t *testing.T) {
	for n := 0; n < 4; n++ {
		got, err := crc.Open(make([]byte, n, 8))
		wantErr(t, "P1.3: Open of too few bytes", err, api.ErrShort)
		if got != nil {
			t.Errorf("P1.3: Open of %d bytes = %x beside an error", n, got)
		}
	}
	for _, x := range []string{"\x01\x00\x00\x00", "123456789\xcb\xf4\x39\x26", "123456789\x26\x39\xf4", "23456789\x26\x39\xf4\xcb", "\x00\x00\x00\x00\x00"} {
		got, err := crc.Open([]byte(x))
		wantErr(t, "P1.3: Open of a wrong sum", err, api.ErrSum)
		if got != nil {
			t.Errorf("P1.3: Open(%x) = %x beside an error", x, got)
		}
	}
}

// bitTurned is Turn, bit by bit.
func bitTurned(b []byte, at int, mask uint32) []byte {
	c := append([]byte{}, b...)
	for i := 0; i < 32; i++ {
		if mask&(1<<i) != 0 {
			c[(at+i)/8] ^= 1 << ((at + i) % 8)
		}
	}
	return c
}

func TestTurn(t *testing.T) {
	if got, err := crc.Turn([]byte{0, 0}, 6, 5); err != nil || !bytes.Equal(got, []byte{0x40, 1}) {
		t.Errorf("P1.4: Turn of 00 00 by 6, 5 = %x, %v", got, err)
	}
	if got, err := crc.Turn([]byte{0}, 7, 1); err != nil || !bytes.Equal(got, []byte{0x80}) {
		t.Errorf("P1.4: Turn of 00 by 7, 1 = %x, %v", got, err)
	}
	r := rand.New(rand.NewSource(18))
	for n := 1; n < 12; n++ {
		b := randomBytes(r, n)
		for at := 0; at < 8*n; at++ {
			for _, mask := range []uint32{1, 2, 3, 0x80000000, 0x80000001, math.MaxUint32, r.Uint32()} {
				mask &= uint32(uint64(1)<<min(32, 8*n-at) - 1)
				if mask == 0 {
					continue
				}
				got, err := crc.Turn(b, at, mask)
				if err != nil || !bytes.Equal(got, bitTurned(b, at, mask)) {
					t.Fatalf("P1.4: Turn(%x, %d, %x) = %x, %v", b, at, mask, got, err)
				}
				if back, err := crc.Turn(got, at, mask); err != nil || !bytes.Equal(back, b) {
					t.Fatalf("P1.4: Turn(%x, %d, %x) twice = %x, %v", b, at, mask, back, err)
				}
			}
		}
	}
}

func TestTurnRefuses(t *testing.T) {
	for _, c := range []struct {
		n, at int
		mask  uint32
	}{
		{1, 7, 3}, {1, 0, 0}, {1, 8, 1}, {1, 0, 0x100}, {0, 0, 1}, {0, 0, 0}, {4, 1, 0x80000000},
		{1, -1, 2}, {5, -8, 0x100}, {1, math.MinInt, 1}, {1, math.MaxInt, 1}, {1, math.MaxInt, 0x80000000}, {1, math.MaxInt - 31, math.MaxUint32},
	} {
		got, err := crc.Turn(make([]byte, c.n, 64), c.at, c.mask)
		wantErr(t, "P1.4: Turn", err, api.ErrArg)
		if got != nil {
			t.Errorf("P1.4: Turn of %d bytes by %d, %x = %x beside an error", c.n, c.at, c.mask, got)
		}
	}
}

func TestBurst(t *testing.T) {
	for _, c := range []struct {
		a, b string
		at   int
		mask uint32
	}{
		{"\x00\x00", "\x40\x01", 6, 5},
		{"\x00\x00\x00\x00\x00", "\x80\x00\x00\x00\x01", 7, 0x2000001},
		{"\x00\x00\x00\x00\x00", "\x02\x00\x00\x00\x01", 1, 0x80000001},
		{"\x00\x00\x00\x00\x00", "\x80\x00\x00\x00\x40", 7, 0x80000001},
		{"\x00\x00\x00\x00", "\xff\xff\xff\xff", 0, math.MaxUint32},
		{"\x07", "\x03", 2, 1},
	} {
		at, mask, err := crc.Burst([]byte(c.a), []byte(c.b))
		if err != nil || at != c.at || mask != c.mask {
			t.Errorf("P1.4: Burst(%x, %x) = %d, %x, %v", c.a, c.b, at, mask, err)
		}
	}
	r := rand.New(rand.NewSource(19))
	for i := 0; i < 3000; i++ {
		a := randomBytes(r, 4+r.Intn(12))
		place := r.Intn(8*len(a) - 31)
		turn := r.Uint32()>>r.Intn(32) | 1
		b := bitTurned(a, place, turn)
		if at, mask, err := crc.Burst(a, b); err != nil || at != place || mask != turn {
			t.Fatalf("P1.4: Burst(%x, %x) = %d, %x, %v, want %d, %x", a, b, at, mask, err, place, turn)
		}
	}
}

func TestBurstRefuses(t *testing.T) {
	for _, c := range []struct {
		a, b string
		want error
	}{
		{"\x00\x00\x00\x00\x00", "\x01\x00\x00\x00\x01", api.ErrRange},
		{"\x00\x00\x00\x00\x00", "\x80\x00\x00\x00\x80", api.ErrRange},
		{"\x00\x00\x00\x00\x00\x00\x00\x00\x00", "\x80\x00\x00\x00\x00\x00\x00\x00\x01", api.ErrRange},
		{"\x07", "\x07", api.ErrNone}, {"", "", api.ErrNone}, {"abcdefgh", "abcdefgh", api.ErrNone},
		{"\x00", "\x00\x00", api.ErrLength}, {"\x01\x00", "\x01", api.ErrLength}, {"", "a", api.ErrLength},
	} {
		at, mask, err := crc.Burst([]byte(c.a), []byte(c.b))
		wantErr(t, "P1.4: Burst", err, c.want)
		if at != 0 || mask != 0 {
			t.Errorf("P1.4: Burst(%x, %x) = %d, %x beside an error", c.a, c.b, at, mask)
		}
	}
	if _, _, err := crc.Burst(nil, []byte{}); !errors.Is(err, api.ErrNone) {
		t.Errorf("R4: Burst of nil and an empty list: %v", err)
	}
	for first := 0; first < 8; first++ {
		for apart := 28; apart < 40; apart++ {
			a := make([]byte, 7)
			b := bitTurned(bitTurned(a, first, 1), first+apart, 1)
			_, _, err := crc.Burst(a, b)
			if (apart > 31) != errors.Is(err, api.ErrRange) || (apart <= 31) != (err == nil) {
				t.Errorf("P1.4: Burst of bits %d and %d: %v", first, first+apart, err)
			}
		}
	}
}

func TestBurstsAreTold(t *testing.T) {
	r := rand.New(rand.NewSource(20))
	for n := 0; n < 24; n++ {
		b := randomBytes(r, n)
		x := crc.Seal(b)
		for at := 0; at < 8*len(x); at++ {
			for _, mask := range []uint32{1, 3, 0x80000001, math.MaxUint32, 0x10003, feedbackBurst, r.Uint32() | 1, r.Uint32() | 1} {
				mask &= uint32(uint64(1)<<min(32, 8*len(x)-at) - 1)
				got, err := crc.Open(bitTurned(x, at, mask))
				wantErr(t, "P1.5: Open of a burst", err, api.ErrSum)
				if got != nil {
					t.Fatalf("P1.5: a burst %x at %d: %x", mask, at, got)
				}
				if crc.Sum(bitTurned(x, at, mask)) == crc.Sum(x) {
					t.Fatalf("P1.5: a burst %x at %d leaves the sum", mask, at)
				}
			}
		}
	}
}

// feedbackBurst looks most like the polynomial itself, whose 33 bits no sum can tell.
const feedbackBurst = 0xDB710641

func TestMoreThanABurstMayPass(t *testing.T) {
	x := crc.Seal(make([]byte, 8))
	// The polynomial's 33 bits, from bit 0 on: the least corruption that isn't a burst and is taken.
	for i, c := range []byte{0x41, 0x06, 0x71, 0xDB, 0x01} {
		x[i] ^= c
	}
	if _, err := crc.Open(x); err != nil {
		t.Errorf("P1.5: the polynomial itself changes the sum: %v", err)
	}
}

func TestPatch(t *testing.T) {
	if got, err := crc.Patch(make([]byte, 4), 0, math.MaxUint32); err != nil || !bytes.Equal(got, []byte{255, 255, 255, 255}) {
		t.Errorf("P1.6: Patch of four noughts = %x, %v", got, err)
	}
	r := rand.New(rand.NewSource(21))
	for n := 4; n < 40; n++ {
		b := randomBytes(r, n)
		for at := 0; at+4 <= n; at++ {
			for _, want := range []uint32{0, math.MaxUint32, crc.Sum(b), r.Uint32()} {
				got, err := crc.Patch(b, at, want)
				if err != nil || crc.Sum(got) != want || !bytes.Equal(got[:at], b[:at]) || !bytes.Equal(got[at+4:], b[at+4:]) {
					t.Fatalf("P1.6: Patch(%x, %d, %x) = %x, %v", b, at, want, got, err)
				}
			}
			other := append([]byte{}, b...)
			r.Read(other[at : at+4])
			if got, err := crc.Patch(b, at, crc.Sum(other)); err != nil || !bytes.Equal(got, other) {
				t.Fatalf("P1.6: Patch(%x, %d) = %x, %v, but %x has that sum", b, at, got, err, other)
			}
			if got, err := crc.Patch(b, at, crc.Sum(b)); err != nil || !bytes.Equal(got, b) {
				t.Fatalf("P1.6: Patch(%x, %d) to its own sum = %x, %v", b, at, got, err)
			}
		}
	}
}

func TestPatchRefuses(t *testing.T) {
	for _, c := range []struct{ n, at int }{{3, 0}, {0, 0}, {4, 1}, {4, -1}, {8, 5}, {8, 8}, {4, math.MaxInt}, {4, math.MaxInt - 3}, {4, math.MinInt}, {3, -1}} {
		got, err := crc.Patch(make([]byte, c.n, 64), c.at, 1)
		wantErr(t, "P1.6: Patch", err, api.ErrArg)
		if got != nil {
			t.Errorf("P1.6: Patch of %d bytes at %d = %x beside an error", c.n, c.at, got)
		}
	}
}

// TestMemory hands lists with spare room to every call, spoils the answers with all their room, and looks at the lists again.
func TestMemory(t *testing.T) {
	r := rand.New(rand.NewSource(22))
	for _, n := range []int{0, 1, 3, 4, 5, 32} {
		b := randomBytes(r, n)
		other := randomBytes(r, n)
		whole, otherWhole := b[:cap(b)], other[:cap(other)]
		before, otherBefore := bytes.Clone(whole), bytes.Clone(otherWhole)
		sealed := crc.Seal(b)
		sealedBefore := bytes.Clone(sealed)
		opened, _ := crc.Open(sealed)
		turned, _ := crc.Turn(b, 0, 1)
		patched, _ := crc.Patch(b, 0, 1)
		crc.Sum(b)
		crc.More(1, b)
		crc.Burst(b, other)
		crc.Burst(other, b)
		for _, answer := range [][]byte{opened, turned, patched} {
			spoil(answer)
		}
		if !bytes.Equal(sealed, sealedBefore) {
			t.Errorf("P1.7: Open of %d bytes shares memory with what was handed in", n)
		}
		spoil(sealed)
		if !bytes.Equal(whole, before) || !bytes.Equal(otherWhole, otherBefore) {
			t.Errorf("P1.7: with %d bytes what was handed in is changed", n)
		}
	}
}

// spoil turns every bit of the list, its spare room too.
func spoil(b []byte) {
	b = b[:cap(b)]
	for i := range b {
		b[i] = ^b[i]
	}
}
