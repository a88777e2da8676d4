package isa_test

import (
	"math"
	"math/rand"
	"slices"
	"testing"

	"ferry/api"
	"ferry/isa"
)

func TestNames(t *testing.T) {
	for _, r := range table() {
		if isa.Name(r.op) != r.name || isa.Number(r.name) != r.op || isa.Form(r.op) != r.form {
			t.Errorf("P4.1: %d %s: Name %q, Number %d, Form %d, want %d", r.op, r.name, isa.Name(r.op), isa.Number(r.name), isa.Form(r.op), r.form)
		}
	}
	ops := []int{math.MinInt, math.MinInt32, math.MaxInt32, math.MaxInt, 1<<32 + 1, 1<<32 + 64}
	for op := -300; op <= 600; op++ {
		ops = append(ops, op)
	}
	for _, op := range ops {
		if _, is := rowOf(op); !is && (isa.Name(op) != "" || isa.Form(op) != 0) {
			t.Errorf("P4.1: %d: Name %q, Form %d", op, isa.Name(op), isa.Form(op))
		}
	}
	for _, name := range []string{"", " ", "ADD", "Add", "add ", " add", "ad", "addd", "nop", "li", "la", ".word", ".space", "r1", "add\x00", "lw\n", "\xff"} {
		if n := isa.Number(name); n != 0 {
			t.Errorf("P4.1: Number(%q) = %d", name, n)
		}
	}
}

func TestEncodeExamples(t *testing.T) {
	for _, x := range []struct {
		in  api.Instr
		w   uint32
		err error
	}{
		{api.Instr{Op: 1, A: 1, B: 2, C: 3}, 0x01123000, nil}, {api.Instr{Op: 16, A: 5, Imm: -1}, 0x1050ffff, nil},
		{api.Instr{Op: 54, A: 15, Imm: 4}, 0x36f00004, nil}, {api.Instr{Op: 64, Imm: 5}, 0x40000005, nil},
		{api.Instr{Op: 1, A: 1, B: 2, C: 3, Imm: 1}, 0, api.ErrRange}, {api.Instr{Op: 17, A: 1, B: 1, Imm: -1}, 0, api.ErrRange},
		{api.Instr{Op: 21}, 0, api.ErrKind}, {api.Instr{Op: 21, A: 99}, 0, api.ErrKind}, {api.Instr{Op: 64, A: 1}, 0, api.ErrRange},
	} {
		w, err := isa.Encode(x.in)
		if w != x.w {
			t.Errorf("P4.1: Encode(%v) = %#x, want %#x", x.in, w, x.w)
		}
		wantBare(t, "P4.1: Encode", err, x.err)
		wantBare(t, "P4.1: Check", isa.Check(x.in), x.err)
	}
}

// lookAtCode holds Check, Encode, Decode and Print of what may be an instruction against the table.
func lookAtCode(t *testing.T, in api.Instr) {
	t.Helper()
	r, is := rowOf(in.Op)
	var want error
	if !is {
		want = api.ErrKind
	} else if !r.valid(in) {
		want = api.ErrRange
	}
	w, err := isa.Encode(in)
	text, er := isa.Print(in)
	wantBare(t, "P4.1: Check", isa.Check(in), want)
	wantBare(t, "P4.1: Encode", err, want)
	wantBare(t, "P4.3: Print", er, want)
	if want != nil {
		if w != 0 || text != "" {
			t.Fatalf("P4.1: Encode(%v) = %#x, Print %q beside their errors", in, w, text)
		}
		return
	}
	code := uint64(in.Op)*1<<24 + uint64(in.A)*1<<20 + uint64(in.B)*1<<16 + uint64(in.C)*1<<12 + uint64((in.Imm+65536)%65536)
	if uint64(w) != code {
		t.Fatalf("P4.1: Encode(%v) = %#x, want %#x", in, w, code)
	}
	if again, err := isa.Decode(w); again != in || err != nil {
		t.Fatalf("P4.2: Decode(Encode(%v)) = %v, %v", in, again, err)
	}
	if text != modelPrint(r, in) {
		t.Fatalf("P4.3: Print(%v) = %q, want %q", in, text, modelPrint(r, in))
	}
	if again, err := isa.Parse(text); again != in || err != nil {
		t.Fatalf("P4.3: Parse(Print(%v)) = %v, %v", in, again, err)
	}
}

func TestCodesAgainstTheTable(t *testing.T) {
	ops := []int{-1, 0, 21, 31, 38, 47, 56, 63, 65, 255, 256, 1<<32 + 1, math.MinInt, math.MaxInt}
	for _, r := range table() {
		ops = append(ops, r.op)
	}
	for _, op := range ops {
		for _, n := range edgeNumbers() {
			for _, m := range []int{0, 3, 15} {
				for _, in := range []api.Instr{{Op: op, A: n, B: m}, {Op: op, A: m, B: n}, {Op: op, A: m, C: n}, {Op: op, B: m, Imm: n}, {Op: op, A: m, B: m, C: m, Imm: n}, {Op: op, A: m, B: m, Imm: n}, {Op: op, A: m, Imm: n}, {Op: op, Imm: n}} {
					lookAtCode(t, in)
				}
			}
		}
	}
}

// modelDecode finds the instruction by its fields, or the error.
func modelDecode(w uint32) (api.Instr, error) {
	r, is := modelRows[w>>24]
	if !is {
		return api.Instr{}, api.ErrKind
	}
	in := api.Instr{Op: r.op, A: int(w / (1 << 20) % 16), B: int(w / (1 << 16) % 16), Imm: int(w % (1 << 16))}
	if r.form == 1 {
		in.C, in.Imm = in.Imm/4096, in.Imm%4096
	} else if r.least < 0 && in.Imm > 32767 {
		in.Imm -= 65536
	}
	if !r.valid(in) {
		return api.Instr{}, api.ErrRange
	}
	return in, nil
}

var modelRows = func() map[uint32]row {
	rows := map[uint32]row{}
	for _, r := range table() {
		rows[uint32(r.op)] = r
	}
	return rows
}()

func lookAtWord(t *testing.T, w uint32) {
	t.Helper()
	in, err := isa.Decode(w)
	want, wantErr := modelDecode(w)
	if in != want || err != wantErr {
		t.Fatalf("P4.2: Decode(%#x) = %v, %v, want %v, %v", w, in, err, want, wantErr)
	}
	if err != nil {
		return
	}
	if again, err := isa.Encode(in); again != w || err != nil {
		t.Fatalf("P4.2: Encode(Decode(%#x)) = %#x, %v", w, again, err)
	}
}

func TestDecode(t *testing.T) {
	for _, x := range []struct {
		w   uint32
		in  api.Instr
		err error
	}{
		{0x01123000, api.Instr{Op: 1, A: 1, B: 2, C: 3}, nil}, {0x01123001, api.Instr{}, api.ErrRange}, {0, api.Instr{}, api.ErrKind},
		{0x1050ffff, api.Instr{Op: 16, A: 5, Imm: -1}, nil}, {0x1150ffff, api.Instr{Op: 17, A: 5, Imm: 65535}, nil}, {0x14510000, api.Instr{}, api.ErrRange},
	} {
		in, err := isa.Decode(x.w)
		if in != x.in {
			t.Errorf("P4.2: Decode(%#x) = %v, want %v", x.w, in, x.in)
		}
		wantBare(t, "P4.2: Decode", err, x.err)
	}
}

func TestDecodeOfManyWords(t *testing.T) {
	lows := []uint32{0, 1, 0x7ff, 0x800, 0xfff, 0x1000, 0x7000, 0x7fff, 0x8000, 0xf000, 0xf001, 0xffff}
	for high := range uint32(1 << 16) {
		for _, low := range lows {
			lookAtWord(t, high<<16|low)
		}
	}
	for op := range uint32(256) {
		for low := uint32(0); low < 1<<16; low += 3 {
			lookAtWord(t, op<<24|low)
		}
	}
	r := rand.New(rand.NewSource(11))
	for range 1 << 20 {
		lookAtWord(t, r.Uint32())
	}
}

func TestBytesAndWords(t *testing.T) {
	if b := isa.Bytes([]uint32{0x01123000}); !slices.Equal(b, []byte{1, 0x12, 0x30, 0}) {
		t.Errorf("P4.5: Bytes = % x", b)
	}
	for n := range 40 {
		r := rand.New(rand.NewSource(int64(n)))
		b := make([]byte, n, n+16)
		r.Read(b[:cap(b)])
		before := slices.Clone(b[:cap(b)])
		words, err := isa.Words(b)
		if n%4 != 0 {
			wantBare(t, "P4.5: Words", err, api.ErrLength)
			if words != nil {
				t.Errorf("P4.5: Words of %d bytes = %x beside its error", n, words)
			}
			continue
		}
		if err != nil || len(words) != n/4 {
			t.Fatalf("P4.5: Words of %d bytes: %x, %v", n, words, err)
		}
		for i, w := range words {
			if uint64(w) != uint64(b[4*i])*1<<24+uint64(b[4*i+1])*1<<16+uint64(b[4*i+2])*1<<8+uint64(b[4*i+3]) {
				t.Fatalf("P4.5: Words(% x) = %x", b, words)
			}
		}
		again := isa.Bytes(words)
		if !slices.Equal(again, b) {
			t.Fatalf("P4.5: Bytes(Words(% x)) = % x", b, again)
		}
		words, again = words[:cap(words)], again[:cap(again)]
		clear(words)
		clear(again)
		if !slices.Equal(b[:cap(b)], before) {
			t.Fatalf("R2: Words and Bytes share memory with what they were handed")
		}
	}
	if len(isa.Bytes(nil)) != 0 || len(isa.Bytes([]uint32{})) != 0 {
		t.Error("P4.5: Bytes of nothing")
	}
	if w, err := isa.Words(nil); len(w) != 0 || err != nil {
		t.Errorf("P4.5: Words of nothing = %x, %v", w, err)
	}
}
