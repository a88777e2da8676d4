package run

import (
	"errors"
	"strconv"
	"strings"

	"ferry/api"
	"ferry/frame"
	"ferry/image"
	"ferry/mirror"
	"ferry/page"
	"ferry/pair"
	"ferry/wire"
)

// teller puts lines behind one another.
type teller struct {
	strings.Builder
}

// The pieces of a line that are more than a text or a number:
type (
	// data is bytes, as the language writes them.
	data string
	// here is whose frame is told, and where it ran.
	here struct{ module, part, frame int }
	// alone is the same of one that ran on no module.
	alone struct{ part, frame int }
	// boundary is the state in which a partition of that plan stands.
	boundary struct {
		plan  api.Plan
		state api.State
	}
)

// say puts the pieces behind one another.
func (t *teller) say(pieces ...any) {
	for _, piece := range pieces {
		switch x := piece.(type) {
		case string:
			t.WriteString(x)
		case int:
			t.WriteString(strconv.Itoa(x))
		case uint32:
			t.WriteString(strconv.FormatUint(uint64(x), 10))
		case data:
			t.WriteString(x.text())
		case here:
			t.say("  m", x.module, " p", x.part, " f", x.frame)
		case alone:
			t.say("  p", x.part, " f", x.frame)
		case boundary:
			t.say("frame ", x.state.Frame, " sum ", x.sum())
		}
	}
}

// line: the pieces, and the line's end.
func (t *teller) line(pieces ...any) {
	t.say(pieces...)
	t.WriteByte('\n')
}

func (d data) text() string {
	if d == "" {
		return "-"
	}
	return wire.Hex([]byte(d))
}

// sum: that of the full image of the state as programs see it, who see no checkpoint.
func (b boundary) sum() uint32 {
	s := b.state
	s.Epoch, s.Pages = 0, page.Clean(s.Pages)
	// A state at a boundary is at rest, and so has an image.
	bytes, _ := image.Encode(b.plan, s)
	head, _ := image.Look(bytes)
	return head.Sum
}

// named: the word of that number; else what kind of thing it is, and the number. (An empty word is none.)
func named(kind string, n int, words ...string) string {
	if n < 0 || n >= len(words) || words[n] == "" {
		return kind + " " + strconv.Itoa(n)
	}
	return words[n]
}

// Word: an error's number as a word.
func Word(code int) string {
	return named("error", code,
		"ok", "short", "rest", "tag", "range", "length", "sum", "kind", "plan", "state", "base",
		"size", "argument", "end", "busy", "down", "lost", "none", "text", "stop", "divide")
}

func reportWord(kind int) string {
	return named("report", kind, "", "fault", "raise", "drop")
}

func eventWord(kind int) string {
	return named("event", kind, "", "begun", "frozen", "released", "started", "over", "aborted", "back", "taken", "lost")
}

// answer: the lines of the answer of step number n.
func (t *teller) answer(n int, a api.Answer) {
	t.say(n, " ", Word(a.Code))
	if a.Msg != 0 {
		t.say(" letter ", a.Msg)
	}
	t.line()
	for _, o := range a.Outs {
		t.out(here{o.Module, o.Part, o.Frame}, o.Out)
	}
	for _, e := range a.Events {
		t.line("  p", e.Part, " ", eventWord(e.Kind), " m", e.Module)
	}
}

// out: the lines of what was emitted; whose it is stands in front of each.
func (t *teller) out(whose any, o api.Out) {
	for _, m := range o.Msgs {
		t.line(whose, " port ", m.Port, " ", data(m.Data))
	}
	for _, r := range o.Reports {
		t.line(whose, " ", reportWord(r.Kind), " ", r.Code, " proc ", r.Proc, " pc ", r.Pc)
	}
}

// end: the line of how it ends for the partition.
func (t *teller) end(p *pair.Pair, part int, plan api.Plan) {
	m, nowhere := p.Where(part)
	s, gone := p.State(part)
	switch {
	case nowhere == nil && gone == nil:
		t.line("p", part, " at m", m, " ", boundary{plan, s})
	case gone == nil:
		t.line("p", part, " held ", boundary{plan, s})
	case errors.Is(nowhere, api.ErrLost):
		t.line("p", part, " lost")
	default:
		t.line("p", part, " gone")
	}
}

// verdict: the line of whether the partition did what it does alone.
func (t *teller) verdict(s api.Script, part int, told []api.PartOut) {
	joined, _ := frame.Joined(s.Config, part)
	first, _ := mirror.Judge(s.Config, part, s.Inputs, told)
	switch {
	case joined:
		// What it does hangs on others: it isn't judged.
		t.line("p", part, " joined")
	case first == len(told):
		t.line("p", part, " as alone")
	default:
		t.line("p", part, " parts at ", first)
	}
}
