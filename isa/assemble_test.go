package isa_test

import (
	"errors"
	"slices"
	"strings"
	"testing"

	"ferry/api"
	"ferry/isa"
)

func lookAtSource(t *testing.T, source string, want []uint32, wantErr error, line int) {
	t.Helper()
	words, err := isa.Assemble(source)
	if !slices.Equal(words, want) || api.Code(err) != api.Code(wantErr) || api.Place(err) != line {
		t.Errorf("P4.4: Assemble(%q) = %#x, %v at %d, want %#x, %v at %d", source, words, err, api.Place(err), want, wantErr, line)
	}
}

func TestAssembleTakes(t *testing.T) {
	for _, x := range []struct {
		source string
		want   []uint32
	}{
		{"loop: addi r1, r1, 1 ; one more\n  bne r1 r2 loop\nsys 1", []uint32{0x10110001, 0x3112fffe, 0x40000001}},
		{"li r3 0x12345678", []uint32{0x14301234, 0x12335678}}, {"la r1 x\nx: .word -1", []uint32{0x10100004, 0xffffffff}}, {"", nil},
		{"\n\n\n", nil}, {"; a: nonsense", nil}, {";", nil}, {" \t\r,,, ", nil}, {"a:", nil}, {"a: b:\tc:;d", nil},
		{"nop", []uint32{0x10000000}}, {",nop\r\n,\tnop\r", []uint32{0x10000000, 0x10000000}}, {"nop;nop", []uint32{0x10000000}},
		{"add,r1,r2,,r3", []uint32{0x01123000}}, {"add\tr1\rr2 r3", []uint32{0x01123000}},
		{"sys 0x5", []uint32{0x40000005}}, {"sys 00000000000000000005", []uint32{0x40000005}}, {"sys 0x000000000000000005", []uint32{0x40000005}},
		{"sys -0", []uint32{0x40000000}}, {"addi r1 r0 -000000000000000001", []uint32{0x1010ffff}}, {"addi r1 r0 -32768", []uint32{0x10108000}}, {"addi r1 r0 0x7fff", []uint32{0x10107fff}},
		{"andi r1 r0 65535", []uint32{0x1110ffff}}, {"lui r1 0xffff", []uint32{0x1410ffff}}, {"jr r3 -4", []uint32{0x3703fffc}}, {"jal r3 -4", []uint32{0x3630fffc}},
		{".word -2147483648\n.word 4294967295\n.word 0xffffffff\n.word 0", []uint32{0x80000000, 0xffffffff, 0xffffffff, 0}},
		{"li r0 -2147483648\nli r15 4294967295", []uint32{0x14008000, 0x12000000, 0x14f0ffff, 0x12ffffff}},
		{".space 0", nil}, {".space 0x3", []uint32{0, 0, 0}}, {".space 2\na: b: jal r2 a", []uint32{0, 0, 0x3620ffff}},
		{"beq r1 r2 end\nend:", []uint32{0x30120000}}, {"la r5 end\nli r1 1\nend:", []uint32{0x1050000c, 0x14100000, 0x12110001}},
		{"add: nop\nbeq r0 r0 add\nli: la: nop:\nla r1 li", []uint32{0x10000000, 0x3000fffe, 0x10100008}},
		{"r16: jal r0 r16\nr00: jal r0 r00\nr: _: a_9:", []uint32{0x3600ffff, 0x3600ffff}},
		{"abcdefghijklmno: jal r1 abcdefghijklmno", []uint32{0x3610ffff}},
		{"bges r1 r2 x\n.space 3\nx: bltu r1 r2 x", []uint32{0x35120003, 0, 0, 0, 0x3212ffff}},
		{"a:\nb:\n\nc: nop\nla r1 a\nla r1 c", []uint32{0x10000000, 0x10100000, 0x10100000}},
	} {
		lookAtSource(t, x.source, x.want, nil, -1)
	}
}

func TestAssembleRefuses(t *testing.T) {
	digits := strings.Repeat("9", 20)
	for _, x := range []struct {
		source string
		err    error
		line   int
	}{
		{"a:\na: nop", api.ErrArg, 2}, {"nop nop", api.ErrText, 1}, {"beq r1 r2 there", api.ErrNone, 1}, {"addi r1 r1 40000", api.ErrRange, 1},
		{"add r1 r2 r16", api.ErrText, 1}, {".space 512\n\nnop", api.ErrSize, 3}, {"jal r1 nowhere\nfoo", api.ErrText, 2},
		{"r0: nop", api.ErrText, 1}, {"r15:", api.ErrText, 1}, {":", api.ErrText, 1}, {"a::", api.ErrText, 1}, {"9a:", api.ErrText, 1}, {"A:", api.ErrText, 1}, {"a-b:", api.ErrText, 1}, {"abcdefghijklmnop:", api.ErrText, 1}, {"a:b nop", api.ErrText, 1}, {"é:", api.ErrText, 1}, {".word:", api.ErrText, 1},
		{"a: a: nop", api.ErrArg, 1}, {"a: 1: a: nop", api.ErrText, 1}, {"a: a: 1: nop", api.ErrArg, 1}, {"a: a: foo", api.ErrArg, 1}, {"a:\na: add r99 r99 r99", api.ErrArg, 2},
		{"foo", api.ErrText, 1}, {"Nop", api.ErrText, 1}, {"nop:nop", api.ErrText, 1}, {"add r1 r2", api.ErrText, 1}, {"add r1 r2 r3 r4", api.ErrText, 1}, {"add", api.ErrText, 1}, {"li r1", api.ErrText, 1}, {"li r1 2 3", api.ErrText, 1}, {"la r1", api.ErrText, 1}, {".word", api.ErrText, 1}, {".word 1 2", api.ErrText, 1}, {".space", api.ErrText, 1}, {"nop 1", api.ErrText, 1}, {"sys", api.ErrText, 1},
		{"sys 99999 1", api.ErrText, 1}, {"add r1 r99 99999", api.ErrText, 1}, {"addi r1 r2 r3", api.ErrText, 1}, {"addi 1 r2 3", api.ErrText, 1}, {"addi r00 r2 3", api.ErrText, 1}, {"addi r01 r2 3", api.ErrText, 1}, {"addi R1 r2 3", api.ErrText, 1}, {"addi r-1 r2 3", api.ErrText, 1}, {"addi r r2 3", api.ErrText, 1},
		{"addi r1 r2 x\nx:", api.ErrText, 1}, {"jr r1 x\nx:", api.ErrText, 1}, {"lw r1 r2 x\nx:", api.ErrText, 1}, {"li r1 x\nx:", api.ErrText, 1}, {".word x\nx:", api.ErrText, 1}, {"la r1 0", api.ErrText, 1}, {"la r1 r2", api.ErrText, 1}, {"beq r1 r2 r3", api.ErrText, 1}, {"beq r1 r2 A", api.ErrText, 1}, {"beq r1 r2 abcdefghijklmnop", api.ErrText, 1},
		{"sys 0x", api.ErrText, 1}, {"sys -", api.ErrText, 1}, {"sys 0xg", api.ErrText, 1}, {"sys 0xA", api.ErrText, 1}, {"sys 0X1", api.ErrText, 1}, {"sys -0x1", api.ErrText, 1}, {"sys +1", api.ErrText, 1}, {"sys 1_0", api.ErrText, 1}, {"sys --1", api.ErrText, 1}, {"sys 1a", api.ErrText, 1}, {"sys a", api.ErrText, 1}, {"sys 1:", api.ErrText, 1},
		{"sys " + digits, api.ErrRange, 1}, {"sys 9" + digits, api.ErrText, 1}, {"sys 00000000000000000000" + "1", api.ErrText, 1}, {"sys -" + digits, api.ErrText, 1}, {"addi r1 r1 -" + digits[1:], api.ErrRange, 1}, {".word 0x" + strings.Repeat("f", 18), api.ErrRange, 1}, {".word 0x" + strings.Repeat("f", 19), api.ErrText, 1}, {".word 18446744073709551616", api.ErrRange, 1}, {".word 18446744073709551615", api.ErrRange, 1}, {".word 0x10000000000000000", api.ErrRange, 1},
		{"sys 65536", api.ErrRange, 1}, {"sys -1", api.ErrRange, 1}, {"addi r1 r1 32768", api.ErrRange, 1}, {"addi r1 r1 -32769", api.ErrRange, 1}, {"beq r1 r1 32768", api.ErrRange, 1}, {"jal r1 -32769", api.ErrRange, 1}, {"andi r1 r1 65536", api.ErrRange, 1}, {"lui r1 -1", api.ErrRange, 1},
		{"li r1 4294967296", api.ErrRange, 1}, {"li r1 -2147483649", api.ErrRange, 1}, {".word 4294967296", api.ErrRange, 1}, {".word -2147483649", api.ErrRange, 1}, {".space 513", api.ErrRange, 1}, {".space -1", api.ErrRange, 1},
		{"li r16 4294967296", api.ErrText, 1}, {".space 512\n.space 1", api.ErrSize, 2}, {".space 511\nli r1 1", api.ErrSize, 2}, {".space 511\nli r1 1 1", api.ErrText, 2}, {".space 512\nbeq r1 r1 a", api.ErrSize, 2}, {".space 512\nbeq r1 r1 a\nfoo", api.ErrSize, 2},
		{"nop\nla r1 x\nbeq r1 r1 y", api.ErrNone, 2}, {"la r1 x\na:\na:", api.ErrArg, 3}, {"nop\r\n\r\nfoo\r\n", api.ErrText, 3}, {"nop\x00", api.ErrText, 1}, {"nop\v", api.ErrText, 1}, {"nop\u00a0", api.ErrText, 1}, {"\xff\xfe", api.ErrText, 1},
	} {
		lookAtSource(t, x.source, nil, x.err, x.line)
	}
	if _, err := isa.Assemble("foo"); !errors.Is(err, api.ErrText) {
		t.Errorf("F1: %v doesn't wrap the error", err)
	}
}

func TestAssembleAtItsSize(t *testing.T) {
	full := strings.Repeat("nop\n", 512)
	words, err := isa.Assemble(full + "end: ; behind the last word\n.space 0\n")
	if len(words) != 512 || err != nil {
		t.Errorf("P4.4: 512 words: %d, %v", len(words), err)
	}
	lookAtSource(t, full+"nop", nil, api.ErrSize, 513)
	words, err = isa.Assemble("la r1 end\nbeq r0 r0 end\n.space 510\nend:")
	if len(words) != 512 || err != nil || words[0] != 0x10100800 || words[1] != 0x300001fe {
		t.Errorf("P4.4: the farthest label: %d, %v", len(words), err)
	}
	words, err = isa.Assemble("start: .space 511\njal r1 start")
	if len(words) != 512 || err != nil || words[511] != 0x3610fe00 {
		t.Errorf("P4.4: the farthest label back: %d, %v", len(words), err)
	}
	lookAtSource(t, "nop "+strings.Repeat("x ", 1<<20), nil, api.ErrText, 1)
	lookAtSource(t, strings.Repeat("\n", 1<<20)+"x", nil, api.ErrText, 1<<20+1)
	lookAtSource(t, strings.Repeat("\n", 1<<20), nil, nil, -1)
}

func TestAssembleAnswersAlike(t *testing.T) {
	source := "a: beq r1 r2 b\nb: la r1 a\n.space 3"
	one, _ := isa.Assemble(source)
	first := slices.Clone(one)
	clear(one[:cap(one)])
	for range 20 {
		if again, err := isa.Assemble(source); !slices.Equal(again, first) || err != nil {
			t.Fatalf("R4: Assemble answers %x, %v, then %x", first, err, again)
		}
	}
}
