package run_test

import (
	"encoding/binary"
	"fmt"
	"strings"
	"testing"

	"ferry/api"
	"ferry/image"
	"ferry/pair"
	"ferry/part"
	"ferry/plan"
)

// The model: a second reading of the chapter.

const errorWords = "ok short rest tag range length sum kind plan state base size argument end busy down lost none text stop divide"

// wordOf: the word of a list, which begins with that number; else the other word and the number.
func wordOf(words string, first, n int, other string) string {
	for i, w := range strings.Fields(words) {
		if first+i == n {
			return w
		}
	}
	return fmt.Sprintf("%s %d", other, n)
}

func word(code int) string { return wordOf(errorWords, 0, code, "error") }

func hex(data string) string {
	if data == "" {
		return "-"
	}
	return fmt.Sprintf("%x", data)
}

// outLines: with that in front of each.
func outLines(front string, o api.Out) string {
	told := ""
	for _, m := range o.Msgs {
		told += fmt.Sprintf("%s port %d %s\n", front, m.Port, hex(m.Data))
	}
	for _, r := range o.Reports {
		told += fmt.Sprintf("%s %s %d proc %d pc %d\n", front, wordOf("fault raise drop", 1, r.Kind, "report"), r.Code, r.Proc, r.Pc)
	}
	return told
}

func tell(n int, a api.Answer) string {
	told := fmt.Sprintf("%d %s", n, word(a.Code))
	if a.Msg != 0 {
		told += fmt.Sprintf(" letter %d", a.Msg)
	}
	told += "\n"
	for _, x := range a.Outs {
		told += outLines(fmt.Sprintf("  m%d p%d f%d", x.Module, x.Part, x.Frame), x.Out)
	}
	for _, e := range a.Events {
		told += fmt.Sprintf("  p%d %s m%d\n", e.Part, wordOf("begun frozen released started over aborted back taken lost", 1, e.Kind, "event"), e.Module)
	}
	return told
}

// stands: the frame and the sum of a state. The sum is what the image's last four bytes lay down, the lowest first.
func stands(t *testing.T, p api.Plan, s api.State) string {
	t.Helper()
	seen := s
	seen.Epoch, seen.Pages = 0, nil
	for _, q := range s.Pages {
		seen.Pages = append(seen.Pages, api.Page{Rights: q.Rights, Data: q.Data})
	}
	b, err := image.Encode(p, seen)
	if err != nil {
		t.Fatalf("image.Encode: %v", err)
	}
	return fmt.Sprintf("frame %d sum %d", s.Frame, binary.LittleEndian.Uint32(b[len(b)-4:]))
}

// ran: what Run is to answer, of a script whose configuration is in form.
func ran(t *testing.T, s api.Script, seen map[string]int) string {
	t.Helper()
	p, err := pair.New(s.Config, s.Inputs)
	if err != nil {
		t.Fatalf("pair.New: %v", err)
	}
	var told strings.Builder
	for i, o := range s.Ops {
		a := p.Step(o)
		told.WriteString(tell(i+1, a))
		seen[fmt.Sprint("code ", a.Code)]++
		for _, e := range a.Events {
			seen[fmt.Sprint("event ", e.Kind)]++
		}
		for _, x := range a.Outs {
			for _, r := range x.Out.Reports {
				seen[fmt.Sprint("report ", r.Kind)]++
			}
			seen["message"] += len(x.Out.Msgs)
		}
	}
	for i, plan := range s.Config.Parts {
		end := "gone"
		m, where := p.Where(i)
		state, err := p.State(i)
		switch {
		case where == nil:
			end = fmt.Sprintf("at m%d %s", m, stands(t, plan, state))
		case err == nil:
			end = "held " + stands(t, plan, state)
		case api.Code(where) == 16:
			end = "lost"
		}
		seen[end[:4]]++
		fmt.Fprintf(&told, "p%d %s\n", i, end)
	}
	return told.String()
}

// aloneFrames: what the partition emits frame by frame, and its states, the boot's first.
func aloneFrames(t *testing.T, s api.Script, n, frames int) ([]api.Out, []api.State) {
	t.Helper()
	state, err := plan.Boot(s.Config.Parts[n])
	if err != nil {
		t.Fatalf("plan.Boot: %v", err)
	}
	var windows []api.Window
	for _, w := range s.Config.Windows {
		if w.Part == n {
			windows = append(windows, w)
		}
	}
	var outs []api.Out
	states := []api.State{state}
	for f := range frames {
		var msgs []api.Msg
		for _, x := range s.Inputs {
			if x.Part == n && x.Frame == f {
				msgs = append(msgs, api.Msg{Port: x.Port, Data: x.Data})
			}
		}
		next, out, err := part.Frame(s.Config.Parts[n], states[f], s.Config.Ticks, windows, msgs)
		if err != nil {
			t.Fatalf("part.Frame: %v", err)
		}
		states, outs = append(states, next), append(outs, out)
	}
	return outs, states
}

// aloneTold: what Alone is to answer, of a partition without channels.
func aloneTold(t *testing.T, s api.Script, n, frames int) string {
	t.Helper()
	outs, states := aloneFrames(t, s, n, frames)
	told := ""
	for f, o := range outs {
		told += outLines(fmt.Sprintf("  p%d f%d", n, f), o)
	}
	return told + fmt.Sprintf("p%d %s\n", n, stands(t, s.Config.Parts[n], states[frames]))
}

func isJoined(c api.Config, n int) bool {
	for _, l := range c.Links {
		if l.From == n || l.To == n {
			return true
		}
	}
	return false
}

// kept: the steps that Still keeps.
func kept(ops []api.Op) []api.Op {
	var l []api.Op
	for _, o := range ops {
		if o.Kind == 1 || o.Kind == 4 || o.Kind == 5 || o.Kind < 1 || o.Kind > 10 {
			l = append(l, o)
		}
	}
	return l
}

// batched: what Batch is to answer, one text after the other.
func batched(answers []string, lines int) []string {
	var l []string
	told := 0
	for _, a := range answers {
		if told >= lines {
			a = "stopped\n"
		} else {
			told += strings.Count(a, "\n")
		}
		l = append(l, a)
	}
	return l
}
