package isa_test

import (
	"errors"
	"math"
	"strings"
	"testing"

	"ferry/api"
)

// wantBare looks whether err is just that error (or none), without a place.
func wantBare(t *testing.T, what string, err, want error) {
	t.Helper()
	var at *api.At
	if api.Code(err) != api.Code(want) || errors.As(err, &at) {
		t.Errorf("%s: error %v at %d, want %v without a place", what, err, api.Place(err), want)
	}
}

// row is a line of the document's table.
type row struct {
	op    int
	name  string
	form  int
	text  string // the fields behind the word: a, b, c, and i for an Imm
	least int
	most  int
	jumps bool // its Imm may be a label's name
}

// table: the document's table of instructions, written out a second time.
func table() []row {
	var rows []row
	add := func(op int, names, text string, form, least, most int, jumps bool) {
		for i, name := range strings.Fields(names) {
			rows = append(rows, row{op: op + i, name: name, form: form, text: text, least: least, most: most, jumps: jumps})
		}
	}
	add(1, "add sub and or xor shl shr sar mul divu divs remu rems sltu slts", "abc", 1, 0, 0, false)
	add(16, "addi", "abi", 2, -32768, 32767, false)
	add(17, "andi ori xori", "abi", 3, 0, 65535, false)
	add(20, "lui", "ai", 4, 0, 65535, false)
	add(32, "lw lh lb sw sh sb", "abi", 2, -32768, 32767, false)
	add(48, "beq bne bltu blts bgeu bges", "abi", 2, -32768, 32767, true)
	add(54, "jal", "ai", 5, -32768, 32767, true)
	add(55, "jr", "bi", 6, -32768, 32767, false)
	add(64, "sys", "i", 7, 0, 65535, false)
	return rows
}

func rowOf(op int) (row, bool) {
	for _, r := range table() {
		if r.op == op {
			return r, true
		}
	}
	return row{}, false
}

// fits: is the field n of an instruction in its range?
func (r row) fits(field string, n int) bool {
	switch {
	case !strings.Contains(r.text, field):
		return n == 0
	case field == "i":
		return n >= r.least && n <= r.most
	}
	return n >= 0 && n <= 15
}

func (r row) valid(in api.Instr) bool {
	return r.fits("a", in.A) && r.fits("b", in.B) && r.fits("c", in.C) && r.fits("i", in.Imm)
}

// edgeNumbers: where a field's range begins or ends, and far beyond.
func edgeNumbers() []int {
	return []int{0, 1, 7, 15, 16, -1, -16, 255, 256, 4095, 4096, 32767, 32768, -32768, -32769, 65535, 65536, -65535, -65536, 1 << 20, 1 << 32, -1 << 32, 1<<32 + 5, math.MaxInt, math.MinInt}
}
