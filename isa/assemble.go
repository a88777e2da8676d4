package isa

import (
	"math"
	"strings"

	"ferry/api"
)

// The letters of the operands that only a source text has.
const (
	operandTarget = 't' // an Imm that may be a label's name instead
	operandLabel  = 'l'
	operandWord   = 'w'
	operandSpace  = 's'
)

// The statements that aren't an instruction's word.
const (
	statementLi    = "li"
	statementLa    = "la"
	statementNop   = "nop"
	statementWord  = ".word"
	statementSpace = ".space"
)

const (
	longestName   = 15
	longestNumber = 20
	// beyond stands for every number that is greater than all ranges: so none wraps.
	beyond = 1 << 33
)

// item is one word to be: an instruction, whose Imm may wait for a label's address, or (Op 0) a plain word.
type item struct {
	in    api.Instr
	plain uint32
	label string
	line  int
}

// operands is what a statement's operands were read to.
type operands struct {
	in     api.Instr
	number int
	label  string
}

// Assemble: the words of a source text.
func Assemble(source string) ([]uint32, error) {
	labels := map[string]int{}
	var items []item
	more := true
	for number := 1; more; number++ {
		var line string
		line, source, more = strings.Cut(source, "\n")
		put := func(it item) {
			it.line = number
			items = append(items, it)
		}
		err := readLine(line, labels, 4*len(items), put)
		if err == nil && len(items) > api.MaxWords {
			err = api.ErrSize
		}
		if err != nil {
			return nil, &api.At{Place: number, Err: err}
		}
	}
	return resolve(items, labels)
}

// readLine keeps the line's labels, which stand at that address, and puts its statement's words.
func readLine(line string, labels map[string]int, address int, put func(item)) error {
	line, _, _ = strings.Cut(line, ";")
	word, rest := nextWord(line)
	for strings.HasSuffix(word, ":") {
		name := strings.TrimSuffix(word, ":")
		if !isName(name) {
			return api.ErrText
		}
		if _, known := labels[name]; known {
			return api.ErrArg
		}
		labels[name] = address
		word, rest = nextWord(rest)
	}
	if word == "" {
		return nil
	}
	return readStatement(word, rest, put)
}

func readStatement(name, rest string, put func(item)) error {
	wanted, ok := statementOperands(name)
	if !ok {
		return api.ErrText
	}
	var words []string
	// One word too many is enough to refuse the line, however long it is.
	for word, rest := nextWord(rest); word != "" && len(words) <= len(wanted); word, rest = nextWord(rest) {
		words = append(words, word)
	}
	if len(words) != len(wanted) {
		return api.ErrText
	}
	got := operands{in: api.Instr{Op: Number(name)}}
	for i, word := range words {
		if err := got.read(wanted[i], word); err != nil {
			return err
		}
	}
	putStatement(name, got, put)
	return nil
}

// statementOperands: the letters of the operands that the statement has, and whether it is one.
func statementOperands(name string) (string, bool) {
	switch name {
	case statementLi:
		return "aw", true
	case statementLa:
		return "al", true
	case statementNop:
		return "", true
	case statementWord:
		return "w", true
	case statementSpace:
		return "s", true
	}
	op := Number(name)
	switch {
	case branches(op):
		return "abt", true
	case op == api.InsJal:
		return "at", true
	}
	return formOperands[Form(op)], op != 0
}

// read takes one operand, of the kind that the letter stands for.
func (o *operands) read(kind byte, word string) error {
	switch kind {
	case operandLabel:
		if !isName(word) {
			return api.ErrText
		}
		o.label = word
		return nil
	case operandTarget:
		if isName(word) {
			o.label = word
			return nil
		}
		return o.readImm(word)
	case fieldI:
		return o.readImm(word)
	case operandWord:
		return o.readNumber(word, math.MinInt32, math.MaxUint32)
	case operandSpace:
		return o.readNumber(word, 0, api.MaxWords)
	}
	if !setRegister(&o.in, kind, word) {
		return api.ErrText
	}
	return nil
}

func (o *operands) readImm(word string) error {
	b := formBounds[Form(o.in.Op)]
	err := o.readNumber(word, int64(b.least), int64(b.most))
	o.in.Imm = o.number
	return err
}

func (o *operands) readNumber(word string, least, most int64) error {
	n, ok := number(word)
	if !ok {
		return api.ErrText
	}
	if n < least || n > most {
		return api.ErrRange
	}
	o.number = int(n)
	return nil
}

func putStatement(name string, got operands, put func(item)) {
	a := got.in.A
	switch name {
	case statementLi:
		w := uint32(got.number)
		put(item{in: api.Instr{Op: api.InsLui, A: a, Imm: int(w >> 16)}})
		put(item{in: api.Instr{Op: api.InsOri, A: a, B: a, Imm: int(w & 0xffff)}})
	case statementLa:
		put(item{in: api.Instr{Op: api.InsAddi, A: a}, label: got.label})
	case statementNop:
		put(item{in: api.Instr{Op: api.InsAddi}})
	case statementWord:
		put(item{plain: uint32(got.number)})
	case statementSpace:
		for range got.number {
			put(item{})
		}
	default:
		put(item{in: got.in, label: got.label})
	}
}

// resolve makes the words, once all labels are known.
func resolve(items []item, labels map[string]int) ([]uint32, error) {
	words := make([]uint32, 0, len(items))
	for k, it := range items {
		address, known := labels[it.label]
		if it.label != "" && !known {
			return nil, &api.At{Place: it.line, Err: api.ErrNone}
		}
		if it.label != "" {
			it.in.Imm = labelImm(it.in.Op, address, 4*(k+1))
		}
		words = append(words, it.word())
	}
	return words, nil
}

// labelImm: la takes the address itself; a branch and jal count words from behind themselves.
func labelImm(op, address, behind int) int {
	if op == api.InsAddi {
		return address
	}
	return (address - behind) / 4
}

func (it item) word() uint32 {
	if it.in.Op == 0 {
		return it.plain
	}
	w, _ := Encode(it.in) // its operands were held against their ranges
	return w
}

// nextWord: the first word of the line, and what stands behind it; "" if there is none.
func nextWord(line string) (string, string) {
	start := 0
	for start < len(line) && isGap(line[start]) {
		start++
	}
	end := start
	for end < len(line) && !isGap(line[end]) {
		end++
	}
	return line[start:end], line[end:]
}

func isGap(c byte) bool { return c == ' ' || c == '\t' || c == '\r' || c == ',' }

// isName: may a label have that name?
func isName(word string) bool {
	if word == "" || len(word) > longestName || isDigit(word[0]) {
		return false
	}
	for i := range len(word) {
		if c := word[i]; c != '_' && !isDigit(c) && (c < 'a' || c > 'z') {
			return false
		}
	}
	_, is := register(word)
	return !is
}

func isDigit(c byte) bool { return c >= '0' && c <= '9' }

// number: the word's value, at most beyond from 0, and whether it is a number.
func number(word string) (int64, bool) {
	if len(word) > longestNumber {
		return 0, false
	}
	if digits, ok := strings.CutPrefix(word, "0x"); ok {
		return value(digits, 16)
	}
	if digits, ok := strings.CutPrefix(word, "-"); ok {
		n, ok := value(digits, 10)
		return -n, ok
	}
	return value(word, 10)
}

func value(digits string, base int64) (int64, bool) {
	n := int64(0)
	for i := range len(digits) {
		d := digit(digits[i])
		if d >= base {
			return 0, false
		}
		n = min(n*base+d, beyond)
	}
	return n, digits != ""
}

// digit: 16, which no base has, of what isn't a digit.
func digit(c byte) int64 {
	switch {
	case isDigit(c):
		return int64(c - '0')
	case c >= 'a' && c <= 'f':
		return int64(c-'a') + 10
	}
	return 16
}
