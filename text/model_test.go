package text_test

import (
	"encoding/hex"
	"math/big"
	"math/rand"
	"regexp"
	"slices"
	"strings"
	"testing"

	"ferry/api"
	"ferry/isa"
	"ferry/text"
)

// rule is a line of the language: in which of its six pieces it stands, and how it looks; N a number, D data, R rights.
type rule struct {
	piece int
	look  *regexp.Regexp
	does  func(s *api.Script, w []string)
}

func newRule(piece int, look string, does func(s *api.Script, w []string)) rule {
	look = strings.NewReplacer("N", "(0|-?[1-9][0-9]*)", "D", "(-|(?:[0-9a-f][0-9a-f])+)", "R", "(-|r|w|x|rw|rx|wx|rwx)").Replace(look)
	return rule{piece, regexp.MustCompile(`\A` + look + `\z`), does}
}

func num(w string) int {
	n, _ := new(big.Int).SetString(w, 10)
	return int(n.Int64())
}

func bytesOf(w string) string {
	b, _ := hex.DecodeString(strings.TrimPrefix(w, "-"))
	return string(b)
}

func last(s *api.Script) *api.Plan { return &s.Config.Parts[len(s.Config.Parts)-1] }

// rules: the language, read a second time.
func rules() []rule {
	port := func(kind, size, depth, refresh string) func(s *api.Script, w []string) {
		return func(s *api.Script, w []string) {
			at := func(x string) int { return num(strings.NewReplacer("$1", w[1], "$2", w[len(w)-1]).Replace(x)) }
			last(s).Ports = append(last(s).Ports, api.PortPlan{Kind: at(kind), Size: at(size), Depth: at(depth), Refresh: at(refresh)})
		}
	}
	all := []rule{
		newRule(1, "config N N", func(s *api.Script, w []string) { s.Config.Ticks, s.Config.Tries = num(w[1]), num(w[2]) }),
		newRule(2, "part N (mobile|fixed)", func(s *api.Script, w []string) {
			s.Config.Parts = append(s.Config.Parts, api.Plan{Id: len(s.Config.Parts), Mobile: w[2] == "mobile"})
			s.Config.Homes = append(s.Config.Homes, num(w[1]))
		}),
		newRule(2, "page R D", func(s *api.Script, w []string) {
			sum := strings.Count(w[1], "r") + 2*strings.Count(w[1], "w") + 4*strings.Count(w[1], "x")
			last(s).Pages = append(last(s).Pages, api.PagePlan{Rights: sum, Init: bytesOf(w[2])})
		}),
		newRule(2, "proc N N (auto|idle)", func(s *api.Script, w []string) {
			last(s).Procs = append(last(s).Procs, api.ProcPlan{Entry: num(w[1]), Prio: num(w[2]), Auto: w[3] == "auto"})
		}),
		newRule(2, "port samplein N N", port("1", "$1", "1", "$2")),
		newRule(2, "port sampleout N", port("2", "$1", "1", "0")),
		newRule(2, "port queuein N N", port("3", "$1", "$2", "0")),
		newRule(2, "port queueout N N", port("4", "$1", "$2", "0")),
		newRule(2, "events N", func(s *api.Script, w []string) { last(s).Events = num(w[1]) }),
		newRule(2, "sem N", func(s *api.Script, w []string) { last(s).Sems = append(last(s).Sems, num(w[1])) }),
		newRule(3, "window snap N N", func(s *api.Script, w []string) {
			s.Config.Windows = append(s.Config.Windows, api.Window{Part: -1, Start: num(w[1]), Len: num(w[2])})
		}),
		newRule(3, "window N N N", func(s *api.Script, w []string) {
			s.Config.Windows = append(s.Config.Windows, api.Window{Part: num(w[1]), Start: num(w[2]), Len: num(w[3])})
		}),
		newRule(4, "link N N N N", func(s *api.Script, w []string) {
			s.Config.Links = append(s.Config.Links, api.Link{From: num(w[1]), Out: num(w[2]), To: num(w[3]), In: num(w[4])})
		}),
		newRule(5, "input N N N D", func(s *api.Script, w []string) {
			s.Inputs = append(s.Inputs, api.Input{Part: num(w[1]), Frame: num(w[2]), Port: num(w[3]), Data: bytesOf(w[4])})
		}),
		newRule(6, "op N", func(s *api.Script, w []string) { s.Ops = append(s.Ops, api.Op{Kind: num(w[1])}) }),
	}
	for i, look := range []string{"frame", "move N", "abort N", "crash N", "up N", "deliver N", "copy N", "drop N", "trim N N", "flip N N N"} {
		all = append(all, newRule(6, look, func(s *api.Script, w []string) {
			o := api.Op{Kind: i + 1}
			for k, to := range []*int{&o.A, &o.B, &o.C} {
				if k+1 < len(w) {
					*to = num(w[k+1])
				}
			}
			s.Ops = append(s.Ops, o)
		}))
	}
	return all
}

// tooGreat: is one of the line's numbers none of 64 bits?
func tooGreat(words []string) bool {
	for _, w := range words {
		if n, is := new(big.Int).SetString(w, 10); is && !n.IsInt64() && len(w) < 300 && !strings.ContainsAny(w, "_+") {
			return true
		}
	}
	return false
}

// model reads the text a second time: the script, or the number of the wrong line.
func model(all []rule, source string) (api.Script, int) {
	var s api.Script
	lines := strings.Split(source, "\n")
	if lines[len(lines)-1] == "" {
		lines = lines[:len(lines)-1]
	}
	piece, said := 0, map[int]bool{}
	for i, line := range lines {
		words := regexp.MustCompile(`[^ \t\r]+`).FindAllString(line, -1)
		if len(words) == 0 || strings.HasPrefix(words[0], "#") {
			continue
		}
		now := modelLine(all, &s, words, piece, said)
		if now < piece || (now == 1) != (piece == 0) {
			return api.Script{}, i + 1
		}
		piece = now
	}
	if piece == 0 {
		return api.Script{}, len(lines) + 1
	}
	return s, 0
}

// modelLine: the piece of which the line is, which is added to the script; 0, if it is wrong.
func modelLine(all []rule, s *api.Script, words []string, piece int, said map[int]bool) int {
	part := len(s.Config.Parts) - 1
	if words[0] == "code" {
		if part < 0 || len(last(s).Pages) == 0 {
			return 0
		}
		in, err := isa.Parse(strings.Join(words[1:], " "))
		word, err2 := isa.Encode(in)
		if err != nil || err2 != nil {
			return 0
		}
		p := &last(s).Pages[len(last(s).Pages)-1]
		p.Init += string([]byte{byte(word >> 24), byte(word >> 16), byte(word >> 8), byte(word)})
		return 2
	}
	for _, x := range all {
		found := x.look.FindStringSubmatch(strings.Join(words, " "))
		if found == nil || words[0] != "page" && words[0] != "input" && tooGreat(words) || words[0] == "input" && tooGreat(words[:min(4, len(words))]) {
			continue
		}
		if x.piece == 2 && words[0] != "part" && part < 0 || words[0] == "events" && said[part] || words[0] == "op" && num(found[1]) >= 1 && num(found[1]) <= 10 {
			return 0
		}
		if words[0] == "events" {
			said[part] = true
		}
		x.does(s, found)
		return x.piece
	}
	return 0
}

// spaced: the words with any blanks between them, and around.
func spaced(r *rand.Rand, line string) string {
	blank := func() string { return one(r, " ", " ", " ", "  ", "\t", "\r", " \t\r ") }
	words := strings.Split(line, " ")
	for i := range words[1:] {
		words[i+1] = blank() + words[i+1]
	}
	line = strings.Join(words, "")
	if seldom(r, 4) {
		line = blank() + line
	}
	if seldom(r, 4) {
		line += blank()
	}
	return line
}

// someText: a text of the language: a script with blanks, lines that say nothing, and code.
func someText(t *testing.T, r *rand.Rand) []string {
	t.Helper()
	b, err := text.Print(someScript(r))
	wantBare(t, "P25.4: Print", err, nil)
	var lines []string
	for line := range strings.Lines(b) {
		line = strings.TrimSuffix(line, "\n")
		if seldom(r, 5) {
			lines = append(lines, one(r, "", " ", "\r", "#", "# x", "\t#config 1 1", "#\x00\xff"))
		}
		if strings.HasPrefix(line, "window snap") && coin(r) {
			line = strings.Replace(line, "snap", "-1", 1)
		}
		lines = append(lines, spaced(r, line))
		for strings.HasPrefix(line, "page") && seldom(r, 2) {
			lines = append(lines, spaced(r, "code "+someInstruction(r)))
		}
	}
	return lines
}

// spoilt: the lines with something changed.
func spoilt(r *rand.Rand, lines []string) []string {
	lines = slices.Clone(lines)
	i, k := r.Intn(len(lines)), r.Intn(len(lines))
	words := strings.Fields(lines[i])
	at := r.Intn(len(words) + 1)
	switch r.Intn(9) {
	case 0:
		lines[i], lines[k] = lines[k], lines[i]
	case 1:
		return slices.Delete(lines, i, i+1)
	case 2:
		return slices.Insert(lines, k, lines[i])
	case 3:
		lines[i] = strings.Join(slices.Delete(words, min(at, max(0, len(words)-1)), min(at+1, len(words))), " ")
	case 4:
		lines[i] = strings.Join(slices.Insert(words, at, one(r, "0", "-1", "snap", "-", "00", "auto", "fixed", "#", "1")), " ")
	case 5:
		if len(words) > 0 {
			words[min(at, len(words)-1)] = one(r, append(noNumbers(), "page", "part", "op", "frame", "rw", "wr", "0a", "0A", "snap", "samplein", "queueout", "fixed", "idle", "config")...)
		}
		lines[i] = strings.Join(words, " ")
	case 6:
		b := []byte(lines[i])
		if len(b) > 0 {
			b[r.Intn(len(b))] = one(r, ' ', '\t', '\n', '\r', '#', '-', '0', 'x', 0, 255, byte(r.Intn(256)))
		}
		lines[i] = string(b)
	case 7:
		return slices.Insert(lines, i, one(r, "part 0 fixed", "events 1", "code sys 1", "page r 00", "window 0 0 0", "frame", "op 5", "link 1 1 1 1", "input 0 0 0 -", "sem 1", "x"))
	}
	return lines
}

// TestModel: P25.5, P25.6: texts of the language, and texts in which something was changed, held against the second reading.
func TestModel(t *testing.T) {
	r := rand.New(rand.NewSource(254))
	all, seen := rules(), map[string]int{}
	for range 12000 {
		lines := someText(t, r)
		for range one(r, 0, 1, 1, 1, 2) {
			if len(lines) > 0 {
				lines = spoilt(r, lines)
			}
		}
		source := strings.Join(lines, "\n") + one(r, "", "\n", "\n", "\n\n", "\r\n")
		wanted, wrong := model(all, source)
		got, err := text.Parse(source)
		if wrong > 0 {
			want(t, "P25.5: Parse", err, api.ErrText, wrong)
			seen["wrong"]++
		} else {
			wantBare(t, "P25.5: Parse", err, nil)
			seen["right"]++
		}
		wantSame(t, "P25.5: Parse", got, wanted)
		if wrong == 0 && err == nil {
			wantAgain(t, got)
		}
		if t.Failed() {
			t.Fatalf("%q", source)
		}
	}
	wantEnough(t, seen, 2000, "right", "wrong")
}

// wantAgain: what was read can be written, its ops are plain, and read again it is the same.
func wantAgain(t *testing.T, s api.Script) {
	t.Helper()
	wantBare(t, "P25.5: Check of what was read", text.Check(s), nil)
	wantSame(t, "P25.5: its ops are plain", s, plain(s))
	b, err := text.Print(s)
	wantBare(t, "P25.6: Print", err, nil)
	again, err := text.Parse(b)
	wantBare(t, "P25.6: Parse", err, nil)
	wantSame(t, "P25.6: read again", again, s)
}

// TestModelOps: P25.2: any one line, held against the second reading.
func TestModelOps(t *testing.T) {
	r := rand.New(rand.NewSource(255))
	all, seen := rules(), map[string]int{}
	for range 12000 {
		line := spaced(r, text.PrintOp(someOp(r)))
		if coin(r) {
			line = strings.Join(spoilt(r, []string{line}), "\n")
		}
		wanted, wrong := model(all, "config 0 0\n"+line)
		o, err := text.ParseOp(line)
		if wrong == 0 && len(wanted.Ops) == 1 && !strings.Contains(line, "\n") && wanted.Config.Parts == nil {
			wantBare(t, "P25.2: ParseOp", err, nil)
			wantSame(t, "P25.2: ParseOp", o, wanted.Ops[0])
			seen["right"]++
		} else {
			wantBare(t, "P25.2: ParseOp", err, api.ErrText)
			wantSame(t, "P25.2: ParseOp", o, api.Op{})
			seen["wrong"]++
		}
		if t.Failed() {
			t.Fatalf("%q", line)
		}
	}
	wantEnough(t, seen, 2000, "right", "wrong")
}
