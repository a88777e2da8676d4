package text_test

import (
	"strconv"
	"strings"
	"testing"

	"ferry/api"
	"ferry/isa"
	"ferry/text"
)

// joined: the lines as a text.
func joined(lines ...string) string { return strings.Join(lines, "\n") + "\n" }

// wantWrong: the text is refused, and the number of the line.
func wantWrong(t *testing.T, source string, line int) {
	t.Helper()
	s, err := text.Parse(source)
	want(t, "P25.5: "+strconv.Quote(source), err, api.ErrText, line)
	if !same(s, api.Script{}) {
		t.Errorf("P25.5: %q: %+v beside an error", source, s)
	}
}

func parsed(t *testing.T, source string) api.Script {
	t.Helper()
	s, err := text.Parse(source)
	wantBare(t, "P25.5: "+strconv.Quote(source), err, nil)
	return s
}

// TestExample2: P25.5: the chapter's example 2.
func TestExample2(t *testing.T) {
	s := parsed(t, joined("config 100 5", "part 0 mobile", "page rx -", "code sys 1", "proc 0 7 auto", "window 0 0 50", "window snap 50 20", "frame"))
	wantSame(t, "P25.5: example 2", s, api.Script{
		Config: api.Config{
			Ticks: 100, Tries: 5, Homes: []int{0},
			Parts:   []api.Plan{{Mobile: true, Pages: []api.PagePlan{{Rights: 5, Init: "\x40\x00\x00\x01"}}, Procs: []api.ProcPlan{{Prio: 7, Auto: true}}}},
			Windows: []api.Window{{Part: 0, Start: 0, Len: 50}, {Part: -1, Start: 50, Len: 20}},
		},
		Ops: []api.Op{{Kind: 1}},
	})
}

// TestExample3: P25.5: the chapter's example 3.
func TestExample3(t *testing.T) {
	wantWrong(t, "", 1)
	wantWrong(t, "# x\n", 2)
	wantWrong(t, "config 100", 1)
	wantWrong(t, joined("config 1 1", "part 2 fixed", "code sys 1"), 3)
	wantWrong(t, joined("config 1 1", "frame", "window 0 0 1"), 3)
}

// TestLines: P25.5: how a text is cut, and which lines say nothing.
func TestLines(t *testing.T) {
	for source, line := range map[string]int{
		"": 1, "\n": 2, " ": 2, "\n\n": 3, "\n ": 3, "\r\n\r\n\t": 4, "#": 2, "#\n#": 3, "# config 1 1": 2, "\n\n#x\n\n": 5, "\nconfig 1\n": 2, "\r": 2,
		"config 1 1\n\n\n\nfram": 5, "config 1 1\n#\nframe\n\nframe 1\n\n": 5, "\n\nconfig 1 1 1": 3, "config 1 1\x00": 1, "config\v1 1": 1, "config\u00a01 1": 1, "config 1\f1": 1, "\ufeffconfig 1 1": 1, "config 1 1\v": 1,
		"config 1 1 # x": 1, "config 1 1\n x": 2, "config 1 1\r\r\nconfig 1 1": 2,
	} {
		wantWrong(t, source, line)
	}
	one := api.Script{Config: api.Config{Ticks: 1, Tries: 2}, Ops: []api.Op{{Kind: 2, A: 3}}}
	for _, source := range []string{
		"config 1 2\nmove 3", "config 1 2\nmove 3\n", "config 1 2\r\nmove 3\r\n", "\n\n  config\t1\t \r2\n\n#\n # x\n\t#move 4\n#\x00\xff\n\r\tmove\r3\r\n \n#", "#\nconfig 1 2\n##\nmove 3\n\n\n\n",
	} {
		wantSame(t, "P25.5: "+strconv.Quote(source), parsed(t, source), one)
	}
	wantSame(t, "P25.5: the config line alone", parsed(t, "config -1 9223372036854775807"), api.Script{Config: api.Config{Ticks: -1, Tries: 9223372036854775807}})
}

// TestOrder: P25.5: which line may stand behind which.
func TestOrder(t *testing.T) {
	pieces := []struct {
		piece int
		line  string
	}{
		{1, "config 1 1"}, {2, "part 0 fixed"}, {2, "page - -"}, {2, "proc 0 0 idle"}, {2, "port sampleout 1"}, {2, "sem 0"}, {2, "code sys 1"},
		{3, "window 0 0 1"}, {3, "window snap 0 1"}, {4, "link 0 0 0 0"}, {5, "input 0 0 0 -"}, {6, "frame"}, {6, "op 0"}, {6, "flip 1 1 1"},
	}
	for _, a := range pieces {
		if a.piece != 1 {
			wantWrong(t, joined(a.line), 1)
			wantWrong(t, joined(a.line, "config 1 1"), 1)
		}
		for _, b := range pieces {
			source := joined("config 1 1", "part 0 fixed", "page - -", a.line, b.line)
			switch {
			case a.piece == 1:
				wantWrong(t, source, 4)
			case b.piece < a.piece:
				wantWrong(t, source, 5)
			case a.line == "part 0 fixed" && b.line == "code sys 1":
				wantWrong(t, source, 5)
			default:
				parsed(t, source)
			}
		}
		if a.piece == 2 && a.line != "part 0 fixed" {
			wantWrong(t, joined("config 1 1", a.line), 2)
		}
	}
	wantWrong(t, joined("config 1 1", "events 1"), 2)
	wantWrong(t, joined("config 1 1", "config 1 1"), 2)
}

// TestWrongLines: P25.5: lines that aren't as they have to be.
func TestWrongLines(t *testing.T) {
	head := []string{"config 1 1", "part 0 fixed", "page rwx 00"}
	wrong := []string{
		"config", "Config 1 1", "part", "part 0", "part fixed", "part mobile 0", "part 0 mobile 1", "part 0 Mobile", "part 0 fixed mobile", "part 0 auto", "part x fixed",
		"page", "page r", "page -", "page 00", "page r - -", "page - - -", "page r 00 00", "page wr -", "page xr -", "page rr -", "page rxw -", "page R -", "page rwxr -", "page -r -", "page 7 -", "page rw x", "page r 0", "page r 000", "page r 0F", "page r 0g", "page r --", "page r -0", "page r 0x00", "page r 00-", "page r \xff\xff",
		"code", "code sys", "code sys -1", "code sys 65536", "code sys 1 1", "code nop", "code SYS 1", "code add r1 r2", "code add r1 r2 r16", "code addi r1 r2 40000", "code addi r1 r2 x", "code sys 01", "code .word 5", "code # x", "code loop: sys 1", "code addi r1, r2, 5",
		"proc", "proc 0", "proc 0 0", "proc 0 0 Auto", "proc 0 0 auto 1", "proc 0 auto", "proc auto 0 0", "proc 0 0 mobile",
		"port", "port samplein", "port samplein 1", "port samplein 1 2 3", "port sampleout", "port sampleout 1 2", "port queuein 1", "port queuein 1 2 3", "port queueout 1", "port queueout 1 2 0", "port 1 1 1", "port sample 1 1", "port Samplein 1 1", "port queue 1 1", "port samplein x 1", "port  ",
		"events", "events 1 2", "events x", "sem", "sem 1 2", "sem x",
		"window", "window 0", "window 0 0", "window 0 0 1 1", "window Snap 0 1", "window snap", "window snap 0", "window snap 0 0 0", "window 0 snap 1", "window snap snap 1", "window - 0 1",
		"link", "link 1", "link 1 2", "link 1 2 3", "link 1 2 3 4 5", "link a 2 3 4",
		"input", "input 1", "input 1 2", "input 1 2 3", "input 1 2 3 - -", "input 1 2 3 0", "input 1 2 3 zz", "input 1 2 3 AB", "input - 1 2 3", "input 1 2 3 4",
		"Frame", "frame 1", "move", "move 1 2", "op 1", "op 10", "op", "x", "-", "1", "framex", "moves 1",
	}
	for _, number := range noNumbers() {
		wrong = append(wrong, "part "+number+" fixed", "proc "+number+" 0 auto", "proc 0 "+number+" auto", "port samplein "+number+" 1", "port samplein 1 "+number, "port sampleout "+number, "port queuein 1 "+number, "port queueout "+number+" 1", "events "+number, "sem "+number)
		wrong = append(wrong, "window "+number+" 0 1", "window 0 "+number+" 1", "window snap 0 "+number, "link "+number+" 0 0 0", "link 0 "+number+" 0 0", "link 0 0 "+number+" 0", "link 0 0 0 "+number, "input "+number+" 0 0 -", "input 0 "+number+" 0 -", "input 0 0 "+number+" -", "deliver "+number)
		wantWrong(t, "config "+number+" 1", 1)
		wantWrong(t, "config 1 "+number, 1)
	}
	for _, line := range wrong {
		wantWrong(t, joined(append(head, line)...), 4)
		wantWrong(t, joined(append(head, "", line, "also wrong")...), 5)
	}
}

// TestParts: P25.5: what a part has, in any order.
func TestParts(t *testing.T) {
	s := parsed(t, joined("config 0 0", "part 5 fixed", "sem 3", "port queuein 2 4", "page r ab", "code sys 1", "proc 1 2 idle", "code sys 2", "page - -", "sem 4", "code sys 3", "events -2", "port sampleout 9", "code sys 4", "proc 3 4 auto", "page x 00", "part -5 mobile", "part 6 fixed", "events 0", "page w -", "code sys 5"))
	wantSame(t, "P25.5: parts", s.Config.Homes, []int{5, -5, 6})
	wantSame(t, "P25.5: parts", s.Config.Parts, []api.Plan{
		{
			Id: 0, Events: -2, Sems: []int{3, 4},
			Pages: []api.PagePlan{{Rights: 1, Init: "\xab\x40\x00\x00\x01\x40\x00\x00\x02"}, {Init: "\x40\x00\x00\x03\x40\x00\x00\x04"}, {Rights: 4, Init: "\x00"}},
			Procs: []api.ProcPlan{{Entry: 1, Prio: 2}, {Entry: 3, Prio: 4, Auto: true}},
			Ports: []api.PortPlan{{Kind: api.QueueIn, Size: 2, Depth: 4}, {Kind: api.SampleOut, Size: 9, Depth: 1}},
		},
		{Id: 1, Mobile: true},
		{Id: 2, Pages: []api.PagePlan{{Rights: 2, Init: "\x40\x00\x00\x05"}}},
	})
	// A part of its own has pages of its own, and says its events itself.
	wantWrong(t, joined("config 0 0", "part 0 fixed", "page - -", "part 0 fixed", "code sys 1"), 5)
	wantWrong(t, joined("config 0 0", "part 0 fixed", "events 0", "part 0 fixed", "events 1", "events 0"), 6)
	wantWrong(t, joined("config 0 0", "part 0 fixed", "events 0", "sem 1", "events 0"), 5)
	if s := parsed(t, joined("config 0 0", "part 0 fixed", "events 3", "part 0 fixed")); s.Config.Parts[1].Events != 0 {
		t.Errorf("P25.5: events that weren't said: %d", s.Config.Parts[1].Events)
	}
}

// TestCode: P25.5: each instruction's word behind the page's bytes, the highest byte first.
func TestCode(t *testing.T) {
	for op := range 70 {
		in := api.Instr{Op: op}
		line, err := isa.Print(in)
		if err != nil {
			continue
		}
		word, err := isa.Encode(in)
		wantBare(t, "isa.Encode", err, nil)
		s := parsed(t, joined("config 0 0", "part 0 fixed", "page - ff", "code\t"+strings.ReplaceAll(line, " ", " \t ")+" "))
		wanted := "\xff" + string([]byte{byte(word >> 24), byte(word >> 16), byte(word >> 8), byte(word)})
		if got := s.Config.Parts[0].Pages[0].Init; got != wanted {
			t.Errorf("P25.5: code %s: %x, want %x", line, got, wanted)
		}
	}
	s := parsed(t, joined("config 0 0", "part 0 fixed", "page - -", "code xori r15 r14 65535", "code beq r1 r2 -32768"))
	if got := s.Config.Parts[0].Pages[0].Init; got != "\x13\xfe\xff\xff\x30\x12\x80\x00" {
		t.Errorf("P25.5: code: %x", got)
	}
}

// TestSnap: P25.5, P25.6: a window of -1 may be written -1 or snap; it is printed as snap.
func TestSnap(t *testing.T) {
	a, b := parsed(t, joined("config 0 0", "window -1 2 3")), parsed(t, joined("config 0 0", "window snap 2 3"))
	wantSame(t, "P25.5: snap", a, b)
	wantSame(t, "P25.5: snap", a.Config.Windows, []api.Window{{Part: api.Snap, Start: 2, Len: 3}})
	got, err := text.Print(a)
	wantBare(t, "P25.4: Print", err, nil)
	if got != joined("config 0 0", "window snap 2 3") {
		t.Errorf("P25.4: %q", got)
	}
}

// TestGreat: R5, R7: long texts end soon.
func TestGreat(t *testing.T) {
	const many = 200000
	s := parsed(t, joined("config 0 0", "part 0 fixed", "page - -")+strings.Repeat("code sys 1\n", many))
	if n := len(s.Config.Parts[0].Pages[0].Init); n != 4*many {
		t.Errorf("P25.5: %d bytes of code", n)
	}
	b, err := text.Print(s)
	wantBare(t, "P25.4: Print", err, nil)
	if len(b) != len("config 0 0\npart 0 fixed\npage - \n")+8*many {
		t.Errorf("P25.4: %d bytes", len(b))
	}
	wantSame(t, "P25.6: read back", parsed(t, b).Config.Parts[0].Pages[0].Init == s.Config.Parts[0].Pages[0].Init, true)
	wantWrong(t, strings.Repeat("\n", many), many+1)
	wantWrong(t, "config "+strings.Repeat("1 ", many), 1)
	wantWrong(t, "config 1 "+strings.Repeat("1", many), 1)
	if s := parsed(t, "config 0 0\n"+strings.Repeat("frame\n", many)); len(s.Ops) != many {
		t.Errorf("P25.5: %d steps", len(s.Ops))
	}
	if s := parsed(t, "config 0 0\n"+strings.Repeat("part 0 fixed\npage - -\ncode sys 1\n", many/10)); len(s.Config.Parts) != many/10 || s.Config.Parts[7].Pages[0].Init != "\x40\x00\x00\x01" {
		t.Errorf("P25.5: %d parts", len(s.Config.Parts))
	}
}
