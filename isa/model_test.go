package isa_test

import (
	"math/big"
	"math/rand"
	"regexp"
	"strconv"
	"strings"
	"testing"

	"ferry/api"
)

// The model: another assembler, over patterns and whole numbers of any size.

var (
	patternRegister = regexp.MustCompile(`^r(0|[1-9]|1[0-5])$`)
	patternName     = regexp.MustCompile(`^[a-z_][a-z_0-9]{0,14}$`)
	patternDecimal  = regexp.MustCompile(`^-?[0-9]+$`)
	patternHex      = regexp.MustCompile(`^0x[0-9a-f]+$`)
)

func modelName(word string) bool {
	return patternName.MatchString(word) && !patternRegister.MatchString(word)
}

func modelNumber(word string) (*big.Int, bool) {
	n := new(big.Int)
	if len(word) > 20 {
		return n, false
	}
	if patternHex.MatchString(word) {
		return n.SetString(word[2:], 16)
	}
	if patternDecimal.MatchString(word) {
		return n.SetString(word, 10)
	}
	return n, false
}

type modelUse struct {
	line, word int
	label      string
	row        row
	in         api.Instr
}

type modelAssembler struct {
	labels map[string]int
	words  []uint32
	uses   []modelUse
}

func (m *modelAssembler) source(source string) ([]uint32, error, int) {
	m.labels = map[string]int{}
	for i, line := range strings.Split(source, "\n") {
		err := m.line(i+1, line)
		if err == nil && len(m.words) > 512 {
			err = api.ErrSize
		}
		if err != nil {
			return nil, err, i + 1
		}
	}
	for _, u := range m.uses {
		address, ok := m.labels[u.label]
		if !ok {
			return nil, api.ErrNone, u.line
		}
		u.in.Imm = address
		if u.row.jumps {
			u.in.Imm = address/4 - u.word - 1
		}
		m.words[u.word] = uint32(u.in.Op)<<24 | uint32(u.in.A)<<20 | uint32(u.in.B)<<16 | uint32(uint16(u.in.Imm))
	}
	return m.words, nil, -1
}

func (m *modelAssembler) line(number int, line string) error {
	line = strings.SplitN(line, ";", 2)[0]
	words := strings.FieldsFunc(line, func(r rune) bool { return strings.ContainsRune(" \t\r,", r) })
	for len(words) > 0 && words[0][len(words[0])-1] == ':' {
		name := words[0][:len(words[0])-1]
		if !modelName(name) {
			return api.ErrText
		}
		if _, ok := m.labels[name]; ok {
			return api.ErrArg
		}
		m.labels[name] = 4 * len(m.words)
		words = words[1:]
	}
	if len(words) == 0 {
		return nil
	}
	kinds := map[string]string{"li": "aw", "la": "al", "nop": "", ".word": "w", ".space": "s"}
	var of row
	for _, r := range table() {
		kinds[r.name] = r.text
		if r.jumps {
			kinds[r.name] = strings.Replace(r.text, "i", "t", 1)
		}
		if r.name == words[0] {
			of = r
		}
	}
	kind, ok := kinds[words[0]]
	if !ok || len(words) != 1+len(kind) {
		return api.ErrText
	}
	return m.statement(number, of, kind, words)
}

func (m *modelAssembler) statement(line int, of row, kind string, words []string) error {
	in := api.Instr{Op: of.op}
	label := ""
	n := new(big.Int)
	for i, word := range words[1:] {
		k := kind[i]
		least, most := int64(of.least), int64(of.most)
		switch k {
		case 'a', 'b', 'c':
			if !patternRegister.MatchString(word) {
				return api.ErrText
			}
			r, _ := strconv.Atoi(word[1:])
			*map[byte]*int{'a': &in.A, 'b': &in.B, 'c': &in.C}[k] = r
			continue
		case 'l', 't':
			if modelName(word) {
				label = word
				continue
			}
			if k == 'l' {
				return api.ErrText
			}
		case 'w':
			least, most = -1<<31, 1<<32-1
		case 's':
			least, most = 0, 512
		}
		number, ok := modelNumber(word)
		if !ok {
			return api.ErrText
		}
		if number.Cmp(big.NewInt(least)) < 0 || number.Cmp(big.NewInt(most)) > 0 {
			return api.ErrRange
		}
		n = number
	}
	m.emit(line, of, words[0], in, label, int(n.Int64()))
	return nil
}

func (m *modelAssembler) emit(line int, of row, name string, in api.Instr, label string, n int) {
	at := len(m.words)
	a := uint32(in.A)
	switch name {
	case "li":
		m.words = append(m.words, 20<<24|a<<20|uint32(n)>>16, 18<<24|a<<20|a<<16|uint32(n)&0xffff)
	case "la":
		m.words = append(m.words, 0)
		m.uses = append(m.uses, modelUse{line, at, label, row{}, api.Instr{Op: 16, A: in.A}})
	case "nop":
		m.words = append(m.words, 16<<24)
	case ".word":
		m.words = append(m.words, uint32(n))
	case ".space":
		m.words = append(m.words, make([]uint32, n)...)
	default:
		if label != "" {
			m.uses = append(m.uses, modelUse{line, at, label, of, in})
		}
		m.words = append(m.words, uint32(in.Op)<<24|a<<20|uint32(in.B)<<16|uint32(in.C)<<12|uint32(uint16(n)))
	}
}

// randomLine: mostly a fine line, now and then one with something odd in it.
func randomLine(r *rand.Rand, labels int, odd int) string {
	pick := func(list ...string) string { return list[r.Intn(len(list))] }
	label := func() string { return pick("a", "b_", "loop", "r16", "add", "_") + strconv.Itoa(r.Intn(labels)) }
	gap := func() string { return pick(" ", " ", " ", ", ", "\t", " ,\r ") }
	number := func(least, most int) string {
		n := least + r.Intn(most-least+1)
		if r.Intn(odd) == 0 {
			n = []int{least - 1, most + 1, 1 << 40, 1<<32 + 5}[r.Intn(4)]
		}
		if n >= 0 && r.Intn(3) == 0 {
			return "0x" + strconv.FormatInt(int64(n), 16)
		}
		return strconv.Itoa(n)
	}
	register := func() string { return "r" + strconv.Itoa(r.Intn(16)) }
	line := pick("", " ", "\t")
	for r.Intn(3) == 0 {
		line += label() + ":" + gap()
	}
	rows := table()
	x := rows[r.Intn(len(rows))]
	switch r.Intn(8) {
	case 0:
		line += "li" + gap() + register() + gap() + number(-1<<31, 1<<32-1)
	case 1:
		line += "la" + gap() + register() + gap() + label()
	case 2:
		line += pick("nop", ".space"+gap()+number(0, 400), ".word"+gap()+number(-1<<31, 1<<32-1), "")
	default:
		line += x.name
		for _, field := range x.text {
			switch {
			case field != 'i':
				line += gap() + register()
			case x.jumps && r.Intn(2) == 0:
				line += gap() + label()
			default:
				line += gap() + number(x.least, x.most)
			}
		}
	}
	if r.Intn(odd) == 0 {
		line += gap() + pick("x", "0", ":", "a:", "r1", "99999999999999999999", ";:", "é")
	}
	for b := []byte(line); r.Intn(odd) == 0 && len(b) > 0; {
		b[r.Intn(len(b))] = ";: ,-_09axrlzAG.\n\xff"[r.Intn(18)]
		line = string(b)
	}
	return line + pick("", "", " ; a: word\xff", ";")
}

func TestAssembleAgainstTheModel(t *testing.T) {
	r := rand.New(rand.NewSource(19))
	codes := map[int]int{}
	for range 6000 {
		lines := make([]string, r.Intn(30))
		labels := 1 + r.Intn(60)
		odd := 3 + r.Intn(300)
		for i := range lines {
			lines[i] = randomLine(r, labels, odd)
		}
		if r.Intn(2) == 0 { // labels that stand once each let more texts through
			for i, kinds := 0, []string{"a", "b_", "loop", "r16", "add", "_"}; i < labels; i++ {
				for _, k := range kinds {
					lines = append(lines, k+strconv.Itoa(i)+":")
				}
			}
			for i := range lines {
				if _, rest, ok := strings.Cut(lines[i], ": "); ok && r.Intn(40) != 0 {
					lines[i] = rest
				}
			}
		}
		source := strings.Join(lines, "\n")
		var m modelAssembler
		want, wantErr, line := m.source(source)
		lookAtSource(t, source, want, wantErr, line)
		codes[api.Code(wantErr)]++
		if t.Failed() {
			return
		}
	}
	for _, err := range []error{nil, api.ErrText, api.ErrArg, api.ErrRange, api.ErrSize, api.ErrNone} {
		if codes[api.Code(err)] < 20 {
			t.Errorf("%v came up %d times only", err, codes[api.Code(err)])
		}
	}
}
