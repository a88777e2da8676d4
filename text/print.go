package text

import (
	"strconv"
	"strings"

	"ferry/api"
)

// printer puts lines behind one another.
type printer struct {
	text strings.Builder
}

// line: the words, one blank between each two, and the line's end.
func (w *printer) line(words ...string) {
	for i, word := range words {
		if i > 0 {
			w.text.WriteByte(' ')
		}
		w.text.WriteString(word)
	}
	w.text.WriteByte('\n')
}

func number(n int) string { return strconv.Itoa(n) }

// chosen: the word for what holds, or else the other one.
func chosen(is bool, word, other string) string {
	if is {
		return word
	}
	return other
}

// data: the bytes in base sixteen.
func data(s string) string {
	if s == "" {
		return noData
	}
	var b strings.Builder
	b.Grow(2 * len(s))
	for i := range len(s) {
		b.WriteByte(digits[s[i]>>4])
		b.WriteByte(digits[s[i]&15])
	}
	return b.String()
}

// Print: the script as a text.
func Print(s api.Script) (string, error) {
	if err := Check(s); err != nil {
		return "", err
	}
	w, c := &printer{}, s.Config
	w.line("config", number(c.Ticks), number(c.Tries))
	for i, p := range c.Parts {
		w.line("part", number(c.Homes[i]), chosen(p.Mobile, "mobile", "fixed"))
		w.part(p)
	}
	for _, x := range c.Windows {
		owner := chosen(x.Part == api.Snap, snapWord, number(x.Part))
		w.line("window", owner, number(x.Start), number(x.Len))
	}
	for _, l := range c.Links {
		w.line("link", number(l.From), number(l.Out), number(l.To), number(l.In))
	}
	for _, x := range s.Inputs {
		w.line("input", number(x.Part), number(x.Frame), number(x.Port), data(x.Data))
	}
	for _, o := range s.Ops {
		w.line(PrintOp(o))
	}
	return w.text.String(), nil
}

// part: what a part has.
func (w *printer) part(p api.Plan) {
	for _, q := range p.Pages {
		w.line("page", rights[q.Rights], data(q.Init))
	}
	for _, q := range p.Procs {
		w.line("proc", number(q.Entry), number(q.Prio), chosen(q.Auto, "auto", "idle"))
	}
	for _, q := range p.Ports {
		w.port(q)
	}
	if p.Events != 0 {
		w.line("events", number(p.Events))
	}
	for _, n := range p.Sems {
		w.line("sem", number(n))
	}
}

func (w *printer) port(q api.PortPlan) {
	word, size := portWords[q.Kind], number(q.Size)
	switch q.Kind {
	case api.SampleIn:
		w.line("port", word, size, number(q.Refresh))
	case api.SampleOut:
		w.line("port", word, size)
	default:
		w.line("port", word, size, number(q.Depth))
	}
}
