package alu_test

import (
	"errors"
	"math"
	"math/big"
	"math/rand"
	"testing"

	"ferry/alu"
	"ferry/api"
)

// wantBare looks whether err is just that error (or none), without a place.
func wantBare(t *testing.T, what string, err, want error) {
	t.Helper()
	var at *api.At
	if api.Code(err) != api.Code(want) || errors.As(err, &at) {
		t.Errorf("%s: error %v at %d, want %v without a place", what, err, api.Place(err), want)
	}
}

// edgeWords: words at which a sign, a carry or a division turns.
func edgeWords() []uint32 {
	words := []uint32{0, 1, 2, 3, 5, 7, 31, 32, 33, 63, 64, 0x7fff, 0x8000, 0xffff, 0x10000, 0x12345678, 0x7ffffffe, 0x7fffffff}
	for _, w := range words[:len(words):len(words)] {
		words = append(words, ^w)
	}
	for n := range 32 {
		words = append(words, 1<<n)
	}
	return words
}

// manyPairs: each edge with each, and as many chosen at random.
func manyPairs(look func(b, c uint32)) {
	r := rand.New(rand.NewSource(3))
	for _, b := range edgeWords() {
		for _, c := range edgeWords() {
			look(b, c)
			look(r.Uint32(), r.Uint32()>>r.Intn(32))
		}
	}
}

func whole(x uint32) *big.Int { return new(big.Int).SetUint64(uint64(x)) }

func signed(x uint32) *big.Int {
	n := whole(x)
	if x >= 1<<31 {
		n.Sub(n, new(big.Int).Lsh(big.NewInt(1), 32))
	}
	return n
}

// low: the number modulo 2^32.
func low(n *big.Int) uint32 {
	return uint32(new(big.Int).Mod(n, new(big.Int).Lsh(big.NewInt(1), 32)).Uint64())
}

func one(is bool) uint32 {
	if is {
		return 1
	}
	return 0
}

// bitwise works bit by bit, as the document says it.
func bitwise(b, c uint32, of func(b, c bool) bool) uint32 {
	w := uint32(0)
	for i := range 32 {
		w |= one(of(b>>i&1 == 1, c>>i&1 == 1)) << i
	}
	return w
}

// modelDo: the table of Do, over whole numbers of any size; not for a division by zero.
func modelDo(op int, b, c uint32) uint32 {
	power := new(big.Int).Lsh(big.NewInt(1), uint(c%32))
	switch op {
	case 1:
		return low(new(big.Int).Add(whole(b), whole(c)))
	case 2:
		return low(new(big.Int).Sub(whole(b), whole(c)))
	case 3:
		return bitwise(b, c, func(b, c bool) bool { return b && c })
	case 4:
		return bitwise(b, c, func(b, c bool) bool { return b || c })
	case 5:
		return bitwise(b, c, func(b, c bool) bool { return b != c })
	case 6:
		return low(new(big.Int).Mul(whole(b), power))
	case 7:
		return low(new(big.Int).Div(whole(b), power))
	case 8:
		return low(new(big.Int).Div(signed(b), power)) // Div rounds down, as the power is above 0
	case 9:
		return low(new(big.Int).Mul(whole(b), whole(c)))
	case 10:
		return low(new(big.Int).Quo(whole(b), whole(c)))
	case 11:
		return low(new(big.Int).Quo(signed(b), signed(c)))
	case 12:
		return low(new(big.Int).Rem(whole(b), whole(c)))
	case 13:
		return low(new(big.Int).Rem(signed(b), signed(c)))
	case 14:
		return one(whole(b).Cmp(whole(c)) < 0)
	}
	return one(signed(b).Cmp(signed(c)) < 0)
}

func modelTest(op int, b, c uint32) bool {
	plain, sign := whole(b).Cmp(whole(c)), signed(b).Cmp(signed(c))
	return []bool{plain == 0, plain != 0, plain < 0, sign < 0, plain >= 0, sign >= 0}[op-48]
}

func TestDoExamples(t *testing.T) {
	for _, x := range []struct {
		op      int
		b, c, w uint32
		err     error
	}{
		{1, 0xffffffff, 2, 1, nil}, {2, 0, 1, 0xffffffff, nil}, {9, 0x10000, 0x10000, 0, nil}, {6, 1, 0x21, 2, nil},
		{16, 1, 1, 0, api.ErrKind}, {0, 1, 1, 0, api.ErrKind},
		{7, 0x80000000, 0x1f, 1, nil}, {8, 0x80000000, 0x1f, 0xffffffff, nil}, {8, 0xfffffffd, 1, 0xfffffffe, nil},
		{10, 0xfffffff9, 2, 0x7ffffffc, nil}, {11, 0xfffffff9, 2, 0xfffffffd, nil}, {13, 0xfffffff9, 2, 0xffffffff, nil},
		{13, 7, 0xfffffffe, 1, nil}, {11, 0x80000000, 0xffffffff, 0x80000000, nil}, {13, 0x80000000, 0xffffffff, 0, nil},
		{12, 7, 0, 0, api.ErrDivide}, {14, 1, 0xffffffff, 1, nil}, {15, 1, 0xffffffff, 0, nil},
	} {
		w, err := alu.Do(x.op, x.b, x.c)
		if w != x.w {
			t.Errorf("P3.1: Do(%d, %x, %x) = %x, want %x", x.op, x.b, x.c, w, x.w)
		}
		wantBare(t, "P3.1: Do", err, x.err)
	}
}

func TestDoAgainstTheTable(t *testing.T) {
	manyPairs(func(b, c uint32) {
		for op := 1; op <= 15; op++ {
			w, err := alu.Do(op, b, c)
			if op >= 10 && op <= 13 && c == 0 {
				wantBare(t, "P3.1: a division by zero", err, api.ErrDivide)
				if w != 0 {
					t.Fatalf("P3.1: Do(%d, %x, 0) = %x beside its error", op, b, w)
				}
				continue
			}
			if want := modelDo(op, b, c); w != want || err != nil {
				t.Fatalf("P3.1: Do(%d, %x, %x) = %x, %v, want %x", op, b, c, w, err, want)
			}
		}
	})
}

func TestTestAgainstTheTable(t *testing.T) {
	manyPairs(func(b, c uint32) {
		for op := 48; op <= 53; op++ {
			is, err := alu.Test(op, b, c)
			if want := modelTest(op, b, c); is != want || err != nil {
				t.Fatalf("P3.1: Test(%d, %x, %x) = %v, %v, want %v", op, b, c, is, err, want)
			}
		}
	})
}

// otherOps: numbers far off, and all near those that there are.
func otherOps() []int {
	ops := []int{math.MinInt, math.MinInt32, math.MaxInt32, math.MaxInt, 1<<32 + 1, 1<<32 + 48, -1<<32 + 1}
	for op := -70; op <= 300; op++ {
		ops = append(ops, op)
	}
	return ops
}

func TestOpsThatAreNone(t *testing.T) {
	for _, op := range otherOps() {
		if op < 1 || op > 15 {
			w, err := alu.Do(op, 6, 0)
			wantBare(t, "P3.1: Do of no op", err, api.ErrKind)
			if w != 0 {
				t.Errorf("P3.1: Do(%d) = %x beside its error", op, w)
			}
		}
		if op < 48 || op > 53 {
			is, err := alu.Test(op, 6, 6)
			wantBare(t, "P3.1: Test of no op", err, api.ErrKind)
			if is {
				t.Errorf("P3.1: Test(%d) is true beside its error", op)
			}
		}
	}
	if is, err := alu.Test(52, 0xffffffff, 1); !is || err != nil {
		t.Errorf("P3.1: Test(52, ffffffff, 1) = %v, %v", is, err)
	}
	if is, err := alu.Test(53, 0xffffffff, 1); is || err != nil {
		t.Errorf("P3.1: Test(53, ffffffff, 1) = %v, %v", is, err)
	}
}

func TestSignedAndWord(t *testing.T) {
	manyPairs(func(b, c uint32) {
		n := alu.Signed(b)
		if int64(n) != signed(b).Int64() {
			t.Fatalf("P3.2: Signed(%x) = %d", b, n)
		}
		if w, err := alu.Word(n); w != b || err != nil {
			t.Fatalf("P3.2: Word(Signed(%x)) = %x, %v", b, w, err)
		}
		if w, err := alu.Word(int(b)); w != b || err != nil {
			t.Fatalf("P3.2: Word(%d) = %x, %v", b, w, err)
		}
	})
	for _, n := range []int{4294967296, -2147483649, math.MaxInt, math.MinInt, 1 << 40, -1 << 40} {
		w, err := alu.Word(n)
		wantBare(t, "P3.2: Word of what has no word", err, api.ErrRange)
		if w != 0 {
			t.Errorf("P3.2: Word(%d) = %x beside its error", n, w)
		}
	}
	if w, err := alu.Word(-1); w != 0xffffffff || err != nil {
		t.Errorf("P3.2: Word(-1) = %x, %v", w, err)
	}
}

// oddNumbers: places and numbers of bits that are none.
func oddNumbers() []int {
	return []int{-1, -2, -32, -64, -1 << 32, math.MinInt, math.MinInt + 1, math.MinInt + 31, math.MaxInt, math.MaxInt - 1, math.MaxInt - 31, 1 << 32, 1<<32 + 1, 64, 256}
}

func TestSext(t *testing.T) {
	for _, x := range edgeWords() {
		for bits := 1; bits <= 32; bits++ {
			want := bitwise(x, x, func(b, _ bool) bool { return b })
			for i := bits; i < 32; i++ {
				want = want&^(1<<i) | (x>>(bits-1)&1)<<i
			}
			if w, err := alu.Sext(x, bits); w != want || err != nil {
				t.Fatalf("P3.2: Sext(%x, %d) = %x, %v, want %x", x, bits, w, err, want)
			}
		}
	}
	for _, bits := range append(oddNumbers(), 0, 33) {
		w, err := alu.Sext(0xffffffff, bits)
		wantBare(t, "P3.2: Sext of no bits", err, api.ErrArg)
		if w != 0 {
			t.Errorf("P3.2: Sext(.., %d) = %x beside its error", bits, w)
		}
	}
}

// modelField: the value of n bits from bit lo on, one bit after the other.
func modelField(x uint32, lo, n int) uint32 {
	v := uint32(0)
	for i := range n {
		v += (x >> (lo + i) & 1) << i
	}
	return v
}

func TestFieldAndPlace(t *testing.T) {
	r := rand.New(rand.NewSource(5))
	for lo := range 34 {
		for n := range 36 {
			x := r.Uint32()
			v, err := alu.Field(x, lo, n)
			if n < 1 || lo+n > 32 {
				wantBare(t, "P3.2: Field of no bits", err, api.ErrArg)
				w, er := alu.Place(x, lo, n, math.MaxUint32)
				wantBare(t, "P3.2: Place in no bits", er, api.ErrArg)
				if v != 0 || w != 0 {
					t.Errorf("P3.2: Field, Place of %d, %d: %x, %x beside their errors", lo, n, v, w)
				}
				continue
			}
			if v != modelField(x, lo, n) || err != nil {
				t.Fatalf("P3.2: Field(%x, %d, %d) = %x, %v", x, lo, n, v, err)
			}
			lookAtPlace(t, x, lo, n, modelField(r.Uint32(), 0, n))
		}
	}
}

func lookAtPlace(t *testing.T, x uint32, lo, n int, v uint32) {
	t.Helper()
	most := uint32(1<<n - 1)
	for _, v := range []uint32{v, 0, most} {
		w, err := alu.Place(x, lo, n, v)
		if err != nil || modelField(w, lo, n) != v || (w^x)&^(most<<lo) != 0 {
			t.Fatalf("P3.2: Place(%x, %d, %d, %x) = %x, %v", x, lo, n, v, w, err)
		}
		if again, err := alu.Field(w, lo, n); again != v || err != nil {
			t.Fatalf("P3.2: Field(Place(.., %d, %d, %x)) = %x, %v", lo, n, v, again, err)
		}
	}
	if n == 32 {
		return
	}
	for _, v := range []uint32{most + 1, math.MaxUint32} {
		w, err := alu.Place(x, lo, n, v)
		wantBare(t, "P3.2: Place of what doesn't fit", err, api.ErrRange)
		if w != 0 {
			t.Errorf("P3.2: Place(.., %d, %d, %x) = %x beside its error", lo, n, v, w)
		}
	}
}

func TestFieldOfOddPlaces(t *testing.T) {
	for _, odd := range oddNumbers() {
		for _, fine := range append(oddNumbers(), 0, 1, 31, 32) {
			for _, p := range [][2]int{{odd, fine}, {fine, odd}} {
				v, err := alu.Field(0xffffffff, p[0], p[1])
				wantBare(t, "P3.2: Field", err, api.ErrArg)
				w, er := alu.Place(0xffffffff, p[0], p[1], 0)
				wantBare(t, "P3.2: Place", er, api.ErrArg)
				if v != 0 || w != 0 {
					t.Errorf("P3.2: Field, Place of %d, %d: %x, %x beside their errors", p[0], p[1], v, w)
				}
			}
		}
	}
}

func TestCarries(t *testing.T) {
	manyPairs(func(b, c uint32) {
		for _, in := range []bool{false, true} {
			exact := int64(b) + int64(c) + int64(one(in))
			if w, out := alu.AddCarry(b, c, in); w != uint32(exact) || out != (exact >= 1<<32) {
				t.Fatalf("P3.3: AddCarry(%x, %x, %v) = %x, %v", b, c, in, w, out)
			}
			exact = int64(b) - int64(c) - int64(one(in))
			if w, out := alu.SubBorrow(b, c, in); w != uint32(exact) || out != (exact < 0) {
				t.Fatalf("P3.3: SubBorrow(%x, %x, %v) = %x, %v", b, c, in, w, out)
			}
		}
		n := uint64(b)<<32 | uint64(^c)
		m := uint64(c)<<32 | uint64(b)
		lowest, carry := alu.AddCarry(^c, b, false)
		highest, _ := alu.AddCarry(b, c, carry)
		if uint64(highest)<<32|uint64(lowest) != n+m {
			t.Fatalf("P3.3: %x + %x by two words = %x %x", n, m, highest, lowest)
		}
		lowest, borrow := alu.SubBorrow(^c, b, false)
		highest, _ = alu.SubBorrow(b, c, borrow)
		if uint64(highest)<<32|uint64(lowest) != n-m {
			t.Fatalf("P3.3: %x - %x by two words = %x %x", n, m, highest, lowest)
		}
	})
}

func TestWides(t *testing.T) {
	r := rand.New(rand.NewSource(7))
	manyPairs(func(b, c uint32) {
		hi, lo := alu.MulWide(b, c)
		if uint64(hi)<<32|uint64(lo) != uint64(b)*uint64(c) {
			t.Fatalf("P3.3: MulWide(%x, %x) = %x, %x", b, c, hi, lo)
		}
		q, rest, err := alu.DivWide(b, r.Uint32(), c)
		if b >= c {
			want := api.ErrRange
			if c == 0 {
				want = api.ErrDivide
			}
			wantBare(t, "P3.3: DivWide", err, want)
			if q != 0 || rest != 0 {
				t.Fatalf("P3.3: DivWide(%x, .., %x) = %x, %x beside its error", b, c, q, rest)
			}
		}
		if c == 0 {
			return
		}
		r := r.Uint32() % c
		lo, carry := alu.AddCarry(lo, r, false)
		hi, _ = alu.AddCarry(hi, 0, carry)
		if q, rest, err := alu.DivWide(hi, lo, c); q != b || rest != r || err != nil {
			t.Fatalf("P3.3: DivWide(%x, %x, %x) = %x, %x, %v, want %x, %x", hi, lo, c, q, rest, err, b, r)
		}
	})
	if q, rest, err := alu.DivWide(1, 0, 2); q != 0x80000000 || rest != 0 || err != nil {
		t.Errorf("P3.3: DivWide(1, 0, 2) = %x, %x, %v", q, rest, err)
	}
	_, _, err := alu.DivWide(2, 0, 0)
	wantBare(t, "P3.3: DivWide(2, 0, 0)", err, api.ErrDivide)
	_, _, err = alu.DivWide(2, 0, 2)
	wantBare(t, "P3.3: DivWide(2, 0, 2)", err, api.ErrRange)
}

func TestRotateOnesLead(t *testing.T) {
	turns := append(oddNumbers(), 0, 1, 31, 32, 33, -31, -33)
	for _, x := range edgeWords() {
		for _, n := range turns {
			by := ((n % 32) + 32) % 32
			want := x
			for range by {
				want = want*2 + want>>31
			}
			if w := alu.Rotate(x, n); w != want {
				t.Fatalf("P3.3: Rotate(%x, %d) = %x, want %x", x, n, w, want)
			}
		}
		ones, lead := 0, 32
		for i := range 32 {
			if x>>i&1 == 1 {
				ones, lead = ones+1, 31-i
			}
		}
		if alu.Ones(x) != ones || alu.Lead(x) != lead {
			t.Fatalf("P3.3: Ones(%x) = %d, Lead %d, want %d, %d", x, alu.Ones(x), alu.Lead(x), ones, lead)
		}
	}
}

func TestDivisionsKeep(t *testing.T) {
	do := func(op int, b, c uint32) uint32 {
		w, err := alu.Do(op, b, c)
		if err != nil {
			t.Fatalf("P3.4: Do(%d, %x, %x): %v", op, b, c, err)
		}
		return w
	}
	manyPairs(func(b, c uint32) {
		if c == 0 {
			return
		}
		if do(10, b, c)*c+do(12, b, c) != b || do(12, b, c) >= c {
			t.Fatalf("P3.4: %x by %x: DIVU %x, REMU %x", b, c, do(10, b, c), do(12, b, c))
		}
		if do(11, b, c)*c+do(13, b, c) != b {
			t.Fatalf("P3.4: %x by %x: DIVS %x, REMS %x", b, c, do(11, b, c), do(13, b, c))
		}
	})
}
