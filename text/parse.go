package text

import (
	"strings"

	"ferry/api"
	"ferry/isa"
)

// The pieces of a text, in their order.
const (
	pieceNone = iota
	pieceConfig
	pieceParts
	pieceWindows
	pieceLinks
	pieceInputs
	pieceSteps
)

// pieceOf: the piece of which a line is that begins with the word.
func pieceOf(word string) int {
	switch word {
	case "config":
		return pieceConfig
	case "part", "page", "code", "proc", "port", "events", "sem":
		return pieceParts
	case "window":
		return pieceWindows
	case "link":
		return pieceLinks
	case "input":
		return pieceInputs
	}
	return pieceSteps
}

// reader is what has been read of a text.
type reader struct {
	script api.Script
	piece  int    // of which the last line was
	init   []byte // of the last page: code grows it, line by line
	events bool   // the last part's events have been said
}

// Parse: the script of a text; else the error and the number of the line.
func Parse(text string) (api.Script, error) {
	r := &reader{}
	lines := 0
	for text != "" {
		now, rest, _ := strings.Cut(text, "\n")
		text = rest
		lines++
		l := cut(now)
		if !l.isSilent() && !reads(func() { r.read(l) }) {
			return api.Script{}, &api.At{Place: lines, Err: api.ErrText}
		}
	}
	if r.piece == pieceNone {
		return api.Script{}, &api.At{Place: lines + 1, Err: api.ErrText}
	}
	r.closePage()
	return r.script, nil
}

// read: a line that says something.
func (r *reader) read(l *line) {
	piece := pieceOf(l.words[0])
	need(piece >= r.piece)
	// The config line is the first one, and the only one of its kind.
	need((piece == pieceConfig) == (r.piece == pieceNone))
	r.piece = piece
	if piece == pieceSteps {
		r.script.Ops = append(r.script.Ops, l.op())
		return
	}
	word, c := l.word(), &r.script.Config
	switch piece {
	case pieceConfig:
		c.Ticks, c.Tries = l.number(), l.number()
	case pieceParts:
		r.partLine(word, l)
	case pieceWindows:
		c.Windows = append(c.Windows, l.window())
	case pieceLinks:
		c.Links = append(c.Links, api.Link{From: l.number(), Out: l.number(), To: l.number(), In: l.number()})
	case pieceInputs:
		r.script.Inputs = append(r.script.Inputs, api.Input{Part: l.number(), Frame: l.number(), Port: l.number(), Data: l.data()})
	}
	l.end()
}

func (l *line) window() api.Window {
	need(len(l.words) > 0)
	if l.words[0] == snapWord {
		l.word()
		return api.Window{Part: api.Snap, Start: l.number(), Len: l.number()}
	}
	return api.Window{Part: l.number(), Start: l.number(), Len: l.number()}
}

// partLine: a new part, or what the last one has.
func (r *reader) partLine(word string, l *line) {
	c := &r.script.Config
	if word != "part" {
		need(len(c.Parts) > 0)
		r.itemLine(word, l, &c.Parts[len(c.Parts)-1])
		return
	}
	r.closePage()
	r.events = false
	c.Homes = append(c.Homes, l.number())
	c.Parts = append(c.Parts, api.Plan{Id: len(c.Parts), Mobile: l.flag("mobile", "fixed")})
}

// itemLine: one more thing that the part has.
func (r *reader) itemLine(word string, l *line, p *api.Plan) {
	switch word {
	case "page":
		r.closePage()
		p.Pages = append(p.Pages, api.PagePlan{Rights: l.choice(len(rights), func(i int) string { return rights[i] })})
		r.init = []byte(l.data())
	case "code":
		need(len(p.Pages) > 0)
		r.init = append(r.init, l.code()...)
	case "proc":
		p.Procs = append(p.Procs, api.ProcPlan{Entry: l.number(), Prio: l.number(), Auto: l.flag("auto", "idle")})
	case "port":
		p.Ports = append(p.Ports, l.port())
	case "events":
		need(!r.events)
		r.events = true
		p.Events = l.number()
	case "sem":
		p.Sems = append(p.Sems, l.number())
	}
}

// closePage: the last page is whole.
func (r *reader) closePage() {
	parts := r.script.Config.Parts
	if len(parts) == 0 {
		return
	}
	if pages := parts[len(parts)-1].Pages; len(pages) > 0 {
		pages[len(pages)-1].Init = string(r.init)
	}
}

// code: the bytes of the instruction that is the rest of the line.
func (l *line) code() []byte {
	in, err := isa.Parse(strings.Join(l.words, " "))
	need(err == nil)
	w, _ := isa.Encode(in) // what was parsed can be encoded
	l.words = nil
	return isa.Bytes([]uint32{w})
}

func (l *line) port() api.PortPlan {
	kind := l.choice(len(portWords), func(i int) string { return portWords[i] })
	q := api.PortPlan{Kind: kind, Size: l.number()}
	switch q.Kind {
	case api.SampleIn:
		q.Depth, q.Refresh = 1, l.number()
	case api.SampleOut:
		q.Depth = 1
	default:
		q.Depth = l.number()
	}
	return q
}
