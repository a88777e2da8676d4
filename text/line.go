package text

import (
	"strconv"
	"strings"

	"ferry/api"
)

// giveUp is what a reader panics with where a line is wrong: so each small step of reading answers what it reads, and nothing else.
type giveUp struct{}

// reads: false, if the reader gave up.
func reads(read func()) (whole bool) {
	defer func() {
		x := recover()
		if _, ours := x.(giveUp); x != nil && !ours {
			panic(x)
		}
	}()
	read()
	return true
}

// line is what is still to be read of a line.
type line struct {
	words []string
}

// need: gives up, unless it holds.
func need(holds bool) {
	if !holds {
		panic(giveUp{})
	}
}

// cut: the line's words.
func cut(text string) *line {
	return &line{strings.FieldsFunc(text, func(r rune) bool { return r == ' ' || r == '\t' || r == '\r' })}
}

// isSilent: does the line say nothing?
func (l *line) isSilent() bool { return len(l.words) == 0 || l.words[0][0] == '#' }

// word: the next word.
func (l *line) word() string {
	need(len(l.words) > 0)
	word := l.words[0]
	l.words = l.words[1:]
	return word
}

// end: nothing may be left.
func (l *line) end() { need(len(l.words) == 0) }

// number: the next word, a number.
func (l *line) number() int {
	word := l.word()
	n, err := strconv.Atoi(word)
	// Atoi takes a + and zeros in front, too.
	need(err == nil && strconv.Itoa(n) == word)
	return n
}

// choice: which of so many words the next one is.
func (l *line) choice(words int, at func(i int) string) int {
	word := l.word()
	for i := range words {
		if at(i) == word {
			return i
		}
	}
	panic(giveUp{})
}

// flag: the next word, which is one of the two.
func (l *line) flag(yes, no string) bool {
	word := l.word()
	need(word == yes || word == no)
	return word == yes
}

// data: the next word, bytes in base sixteen.
func (l *line) data() string {
	word := l.word()
	if word == noData {
		return ""
	}
	need(len(word)%2 == 0)
	bytes := make([]byte, 0, len(word)/2)
	for i := 0; i < len(word); i += 2 {
		bytes = append(bytes, digit(word[i])<<4|digit(word[i+1]))
	}
	return string(bytes)
}

func digit(c byte) byte {
	n := strings.IndexByte(digits, c)
	need(n >= 0)
	return byte(n)
}

// op: the step that the line is.
func (l *line) op() api.Op {
	kind := l.choice(len(forms), func(i int) string { return forms[i].word })
	o := api.Op{Kind: kind}
	if kind == 0 {
		o.Kind = l.number()
		need(!isKind(o.Kind))
	}
	for _, f := range []*int{&o.A, &o.B, &o.C}[:forms[kind].fields] {
		*f = l.number()
	}
	l.end()
	return o
}

// ParseOp: the op of a line.
func ParseOp(line string) (api.Op, error) {
	var o api.Op
	// A line end is no blank: it makes a word in which it stands one that isn't of the language.
	l := cut(line)
	if l.isSilent() || !reads(func() { o = l.op() }) {
		return api.Op{}, api.ErrText
	}
	return o, nil
}
