package isa

import (
	"strconv"
	"strings"

	"ferry/api"
)

// What an operand's letter stands for; a, b, c and i are the fields of an instruction.
const (
	fieldA = 'a'
	fieldB = 'b'
	fieldC = 'c'
	fieldI = 'i'
)

// formOperands: the fields behind an instruction's word, in the order of its text.
var formOperands = [...]string{
	formRegister: "abc",
	formSigned:   "abi",
	formUnsigned: "abi",
	formUpper:    "ai",
	formJump:     "ai",
	formBack:     "bi",
	formCall:     "i",
}

var registers = [...]string{"r0", "r1", "r2", "r3", "r4", "r5", "r6", "r7", "r8", "r9", "r10", "r11", "r12", "r13", "r14", "r15"}

// Print: the instruction as a text.
func Print(in api.Instr) (string, error) {
	if err := Check(in); err != nil {
		return "", err
	}
	text := Name(in.Op)
	for _, field := range []byte(formOperands[Form(in.Op)]) {
		text += " " + printField(in, field)
	}
	return text, nil
}

func printField(in api.Instr, field byte) string {
	switch field {
	case fieldA:
		return registers[in.A]
	case fieldB:
		return registers[in.B]
	case fieldC:
		return registers[in.C]
	}
	return strconv.Itoa(in.Imm)
}

// Parse: the instruction of a text that Print answers.
func Parse(s string) (api.Instr, error) {
	words := strings.SplitN(s, " ", 5)
	in := api.Instr{Op: Number(words[0])}
	fields := formOperands[Form(in.Op)]
	if len(words) != 1+len(fields) {
		return api.Instr{}, api.ErrText
	}
	for i, word := range words[1:] {
		if !parseField(&in, fields[i], word) {
			return api.Instr{}, api.ErrText
		}
	}
	// The fields were read with some licence: only the text that is printed again is the instruction's.
	if again, err := Print(in); err != nil || again != s {
		return api.Instr{}, api.ErrText
	}
	return in, nil
}

func parseField(in *api.Instr, field byte, word string) bool {
	if field == fieldI {
		n, err := strconv.Atoi(word)
		in.Imm = n
		return err == nil
	}
	return setRegister(in, field, word)
}

func setRegister(in *api.Instr, field byte, word string) bool {
	n, ok := register(word)
	switch field {
	case fieldA:
		in.A = n
	case fieldB:
		in.B = n
	case fieldC:
		in.C = n
	}
	return ok
}

// register: the number of the register of that name, and whether it is one.
func register(word string) (int, bool) {
	for n := range registers {
		if word == registers[n] {
			return n, true
		}
	}
	return 0, false
}

// List: a source text that gives the words.
func List(words []uint32) string {
	var text strings.Builder
	for _, w := range words {
		text.WriteString(listWord(w))
		text.WriteByte('\n')
	}
	return text.String()
}

func listWord(w uint32) string {
	in, err := Decode(w)
	if err != nil {
		return ".word " + strconv.FormatUint(uint64(w), 10)
	}
	text, _ := Print(in) // what was decoded can be printed
	return text
}
