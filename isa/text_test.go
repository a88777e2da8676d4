package isa_test

import (
	"math/rand"
	"slices"
	"strconv"
	"strings"
	"testing"

	"ferry/api"
	"ferry/isa"
)

func modelPrint(r row, in api.Instr) string {
	words := []string{r.name}
	for _, field := range r.text {
		switch field {
		case 'a':
			words = append(words, "r"+strconv.Itoa(in.A))
		case 'b':
			words = append(words, "r"+strconv.Itoa(in.B))
		case 'c':
			words = append(words, "r"+strconv.Itoa(in.C))
		case 'i':
			words = append(words, strconv.Itoa(in.Imm))
		}
	}
	return strings.Join(words, " ")
}

func TestPrintAndParseExamples(t *testing.T) {
	for _, x := range []struct {
		in   api.Instr
		text string
	}{
		{api.Instr{Op: 16, A: 5, Imm: -1}, "addi r5 r0 -1"}, {api.Instr{Op: 55, B: 7, Imm: 8}, "jr r7 8"}, {api.Instr{Op: 64, Imm: 5}, "sys 5"},
		{api.Instr{Op: 1, A: 15, B: 10, C: 9}, "add r15 r10 r9"}, {api.Instr{Op: 20, A: 1, Imm: 65535}, "lui r1 65535"},
	} {
		if s, err := isa.Print(x.in); s != x.text || err != nil {
			t.Errorf("P4.3: Print(%v) = %q, %v, want %q", x.in, s, err, x.text)
		}
		if in, err := isa.Parse(x.text); in != x.in || err != nil {
			t.Errorf("P4.3: Parse(%q) = %v, %v, want %v", x.text, in, err, x.in)
		}
	}
}

func TestParseRefuses(t *testing.T) {
	for _, s := range []string{
		"addi r5 r0 -01", "addi  r5 r0 -1", "ADD r1 r2 r3", "sys 70000", "", " ", "add", "nop", "sys", "sys ", " sys 5", "sys 5 ", "sys 5\n", "sys\t5", "sys 5 5",
		"sys -0", "sys +5", "sys 05", "sys 0x5", "sys 5_0", "sys -1", "sys 65536", "sys 99999999999999999999999", "sys r1", "sys five", "sys 4294967301", "sys 18446744073709551621",
		"jr 7 8", "jr r7", "jr r07 8", "jr r16 8", "jr R7 8", "jr r 8", "jr r-1 8", "jr r+1 8", "jr r7 32768", "jr r7 -32769", "jr r7, 8",
		"add r1 r2", "add r1 r2 r3 r4", "add r1 r2 3", "addi r1 r2 r3", "lui r1 r2 3", "andi r1 r1 -1", "add r1 r2 r3 " + strings.Repeat("x ", 100), ".word 5", "li r1 5", "x: sys 5", "sys 5 ;", "\xff",
	} {
		in, err := isa.Parse(s)
		wantBare(t, "P4.3: Parse of "+strconv.Quote(s), err, api.ErrText)
		if in != (api.Instr{}) {
			t.Errorf("P4.3: Parse(%q) = %v beside its error", s, in)
		}
	}
}

func TestParseIsTheWayBack(t *testing.T) {
	r := rand.New(rand.NewSource(13))
	rows := table()
	taken := 0
	for range 200000 {
		x := rows[r.Intn(len(rows))]
		in := api.Instr{Op: x.op, A: r.Intn(16), B: r.Intn(16), C: r.Intn(16), Imm: x.least + r.Intn(x.most-x.least+1)}
		s := []byte(modelPrint(x, in))
		for range r.Intn(3) {
			s[r.Intn(len(s))] = "0123456789- rxadlwsy"[r.Intn(20)]
		}
		got, err := isa.Parse(string(s))
		if err != nil {
			wantBare(t, "P4.3: Parse", err, api.ErrText)
			continue
		}
		taken++
		if again, err := isa.Print(got); again != string(s) || err != nil {
			t.Fatalf("P4.3: Print(Parse(%q)) = %q, %v", s, again, err)
		}
	}
	if taken < 1000 {
		t.Errorf("only %d texts were taken", taken)
	}
}

func TestList(t *testing.T) {
	if s := isa.List([]uint32{0x01123000, 5}); s != "add r1 r2 r3\n.word 5\n" {
		t.Errorf("P4.4: List = %q", s)
	}
	if s := isa.List(nil); s != "" {
		t.Errorf("P4.4: List of nothing = %q", s)
	}
	r := rand.New(rand.NewSource(17))
	for range 300 {
		words := make([]uint32, r.Intn(513))
		for i := range words {
			words[i] = []uint32{r.Uint32(), r.Uint32() & 0x4fffffff, 0, 0xffffffff, 0x80000000, 0x0100f000 | r.Uint32()&0xff0000}[r.Intn(6)]
		}
		text := isa.List(words)
		if text != modelList(words) {
			t.Fatalf("P4.4: List(%x) = %q", words, text)
		}
		if again, err := isa.Assemble(text); !slices.Equal(again, words) || err != nil {
			t.Fatalf("P4.4: Assemble(List(%x)) = %x, %v", words, again, err)
		}
	}
}

func modelList(words []uint32) string {
	text := ""
	for _, w := range words {
		if in, err := modelDecode(w); err == nil {
			text += modelPrint(modelRows[w>>24], in) + "\n"
		} else {
			text += ".word " + strconv.Itoa(int(w)) + "\n"
		}
	}
	return text
}
