package text_test

import (
	"fmt"
	"math"
	"math/rand"
	"strconv"
	"strings"
	"testing"

	"ferry/api"
	"ferry/text"
)

// written: a script of so many parts that can be written.
func written(parts int) api.Script {
	var s api.Script
	for i := range parts {
		s.Config.Parts = append(s.Config.Parts, api.Plan{Id: i})
		s.Config.Homes = append(s.Config.Homes, 0)
	}
	return s
}

// wantCheck: Check's place (-1: none), and that Print answers the same error.
func wantCheck(t *testing.T, what string, s api.Script, place int) {
	t.Helper()
	wanted := error(nil)
	if place >= 0 {
		wanted = api.ErrArg
	}
	want(t, "P25.3: Check: "+what, text.Check(s), wanted, place)
	b, err := text.Print(s)
	want(t, "P25.4: Print: "+what, err, wanted, place)
	if (b == "") != (place >= 0) {
		t.Errorf("P25.4: %s: %q, %v", what, b, err)
	}
}

// TestExample4: P25.3: the chapter's example 4.
func TestExample4(t *testing.T) {
	s := written(2)
	s.Config.Parts[1].Id = 0
	wantCheck(t, "an Id", s, 1)
	s = written(1)
	s.Config.Homes = []int{0, 0}
	wantCheck(t, "two Homes", s, 1)
	s.Config.Homes = nil
	wantCheck(t, "no Home", s, 0)
}

// TestCheck: P25.3: each rule, and the first part that breaks one.
func TestCheck(t *testing.T) {
	wantCheck(t, "nothing", api.Script{}, -1)
	wantCheck(t, "three parts", written(3), -1)
	for part := range 3 {
		for _, id := range []int{math.MinInt, -1, part - 1, part + 1, part + 256, math.MaxInt} {
			s := written(3)
			s.Config.Parts[part].Id = id
			wantCheck(t, "an Id", s, part)
		}
		for rights := -2; rights < 11; rights++ {
			s := written(3)
			s.Config.Parts[part].Pages = []api.PagePlan{{}, {Rights: rights}}
			place := part
			if rights >= 0 && rights <= 7 {
				place = -1
			}
			wantCheck(t, fmt.Sprint("rights ", rights), s, place)
		}
		for _, rights := range []int{math.MinInt, 256, 263, math.MaxInt} {
			s := written(3)
			s.Config.Parts[part].Pages = []api.PagePlan{{Rights: rights}}
			wantCheck(t, fmt.Sprint("rights ", rights), s, part)
		}
		for n := range 3 {
			s := written(3)
			s.Config.Homes = s.Config.Homes[:n]
			wantCheck(t, "Homes are missing", s, n)
			s.Config.Parts[part].Id = 9
			wantCheck(t, "Homes are missing, and an Id is wrong", s, min(n, part))
		}
		s := written(3)
		s.Config.Homes = append(s.Config.Homes, 1, 0)
		wantCheck(t, "more Homes than parts", s, 3)
		s.Config.Parts[part].Id = 9
		wantCheck(t, "more Homes than parts, and an Id is wrong", s, part)
	}
	s := written(0)
	s.Config.Homes = []int{0}
	wantCheck(t, "a Home and no part", s, 0)
}

// TestCheckPorts: P25.3: what the language can say of a port.
func TestCheckPorts(t *testing.T) {
	for _, kind := range []int{math.MinInt, -1, 0, 1, 2, 3, 4, 5, 257, math.MaxInt} {
		for _, depth := range []int{math.MinInt, -1, 0, 1, 2, 8, math.MaxInt} {
			for _, refresh := range []int{math.MinInt, -1, 0, 1, math.MaxInt} {
				s := written(2)
				fine := api.PortPlan{Kind: api.SampleOut, Depth: 1}
				s.Config.Parts[1].Ports = []api.PortPlan{fine, {Kind: kind, Size: -7, Depth: depth, Refresh: refresh}}
				is := kind >= 1 && kind <= 4
				if kind <= 2 && depth != 1 || kind != 1 && refresh != 0 {
					is = false
				}
				place := 1
				if is {
					place = -1
				}
				wantCheck(t, fmt.Sprint("a port ", kind, depth, refresh), s, place)
			}
		}
	}
}

// TestCheckNothingElse: P25.3: a script that can be written need not be one that boots.
func TestCheckNothingElse(t *testing.T) {
	r := rand.New(rand.NewSource(252))
	for range 500 {
		wantCheck(t, "any script", someScript(r), -1)
	}
}

// TestPrint: P25.4: every line, in its order.
func TestPrint(t *testing.T) {
	s := api.Script{
		Config: api.Config{
			Ticks: 100, Tries: -5, Homes: []int{1, -9223372036854775808},
			Parts: []api.Plan{
				{
					Id: 0, Mobile: true, Events: 3, Sems: []int{4, 0, -1},
					Ports: []api.PortPlan{{Kind: 1, Size: 1, Depth: 1, Refresh: 7}, {Kind: 2, Size: 2, Depth: 1}, {Kind: 3, Size: 3, Depth: 8}, {Kind: 4, Size: -4, Depth: 0}, {Kind: 1, Size: 5, Depth: 1}},
					Procs: []api.ProcPlan{{Entry: 64, Prio: 9, Auto: true}, {Entry: -4}},
				},
				{Id: 1},
			},
			Windows: []api.Window{{Part: 0, Start: 0, Len: 10}, {Part: -1, Start: 20, Len: 5}, {Part: -2, Start: -1, Len: 0}},
			Links:   []api.Link{{From: 1, Out: 2, To: 3, In: 4}},
		},
		Inputs: []api.Input{{Part: 1, Frame: 2, Port: 3, Data: "hi"}, {Part: -1}, {Data: "\x00\xff\x0a"}},
		Ops:    []api.Op{{Kind: 1, A: 5}, {Kind: 10, A: 1, B: 2, C: 3}, {Kind: 77, B: 1}},
	}
	for i := range 8 {
		s.Config.Parts[0].Pages = append(s.Config.Parts[0].Pages, api.PagePlan{Rights: i, Init: strings.Repeat("\x40\x00\x00\x01", i%3)})
	}
	lines := []string{
		"config 100 -5",
		"part 1 mobile", "page - -", "page r 40000001", "page w 4000000140000001", "page rw -", "page x 40000001", "page rx 4000000140000001", "page wx -", "page rwx 40000001",
		"proc 64 9 auto", "proc -4 0 idle",
		"port samplein 1 7", "port sampleout 2", "port queuein 3 8", "port queueout -4 0", "port samplein 5 0",
		"events 3", "sem 4", "sem 0", "sem -1",
		"part -9223372036854775808 fixed",
		"window 0 0 10", "window snap 20 5", "window -2 -1 0",
		"link 1 2 3 4",
		"input 1 2 3 6869", "input -1 0 0 -", "input 0 0 0 00ff0a",
		"frame", "flip 1 2 3", "op 77",
	}
	got, err := text.Print(s)
	wantBare(t, "P25.4: Print", err, nil)
	if wanted := strings.Join(lines, "\n") + "\n"; got != wanted {
		t.Errorf("P25.4: Print:\n%s\nwant\n%s", got, wanted)
	}
	back, err := text.Parse(got)
	wantBare(t, "P25.5: Parse", err, nil)
	wantSame(t, "P25.6: read back", back, plain(s))
}

// TestExample5: P25.4: the zero Script.
func TestExample5(t *testing.T) {
	got, err := text.Print(api.Script{})
	wantBare(t, "P25.4: Print", err, nil)
	if got != "config 0 0\n" {
		t.Errorf("P25.4: Print of the zero Script: %q", got)
	}
}

// TestAllBytes: P25.4, P25.5: every byte as data, there and back.
func TestAllBytes(t *testing.T) {
	s := written(1)
	data, digits := "", ""
	for i := range 256 {
		data, digits = data+string([]byte{byte(i)}), digits+fmt.Sprintf("%02x", i)
	}
	s.Config.Parts[0].Pages = []api.PagePlan{{Init: data}}
	s.Inputs = []api.Input{{Data: data}}
	got, err := text.Print(s)
	wantBare(t, "P25.4: Print", err, nil)
	if wanted := "config 0 0\npart 0 fixed\npage - " + digits + "\ninput 0 0 0 " + digits + "\n"; got != wanted {
		t.Errorf("P25.4: %q", got)
	}
	back, err := text.Parse(got)
	wantBare(t, "P25.5: Parse", err, nil)
	wantSame(t, "P25.6: read back", back, s)
}

// TestThereAndBack: P25.6: Parse(Print(s)) is s with each op plain, and R2.
func TestThereAndBack(t *testing.T) {
	r := rand.New(rand.NewSource(253))
	for range 3000 {
		s := roomy(someScript(r))
		look := kept(t, s)
		wantBare(t, "P25.3: Check", text.Check(s), nil)
		b, err := text.Print(s)
		look("Print")
		wantBare(t, "P25.4: Print", err, nil)
		back, err := text.Parse(b)
		wantBare(t, "P25.5: Parse", err, nil)
		wantSame(t, "P25.6: read back", back, plain(s))
		again, err := text.Parse(b)
		wantBare(t, "P25.5: Parse", err, nil)
		wantApart(t, "Parse", s, back, again)
		if t.Failed() {
			t.Fatal(strconv.Quote(b))
		}
	}
}
