package text_test

import (
	"math"
	"math/rand"
	"strconv"
	"testing"

	"ferry/api"
	"ferry/text"
)

// TestPlain: P25.1: the fields that each kind uses.
func TestPlain(t *testing.T) {
	full := api.Op{A: 5, B: -6, C: 7}
	used := [...]int{1: 0, 2: 1, 3: 1, 4: 1, 5: 1, 6: 1, 7: 1, 8: 1, 9: 2, 10: 3}
	for _, kind := range []int{math.MinInt, -1, 0, 1, 2, 3, 4, 5, 6, 7, 8, 9, 10, 11, 12, 257, math.MaxInt} {
		full.Kind = kind
		wanted := api.Op{Kind: kind}
		n := 0
		if kind >= 1 && kind <= 10 {
			n = used[kind]
		}
		if n >= 1 {
			wanted.A = 5
		}
		if n >= 2 {
			wanted.B = -6
		}
		if n >= 3 {
			wanted.C = 7
		}
		if got := text.Plain(full); got != wanted {
			t.Errorf("P25.1: Plain of kind %d: %+v, want %+v", kind, got, wanted)
		}
		if text.Plain(wanted) != wanted {
			t.Errorf("P25.1: a plain op of kind %d isn't left alone", kind)
		}
	}
}

// lines: an op of each kind, and how it is written.
func lines() map[string]api.Op {
	return map[string]api.Op{
		"frame":                          {Kind: 1},
		"move 3":                         {Kind: 2, A: 3},
		"abort 0":                        {Kind: 3},
		"crash 1":                        {Kind: 4, A: 1},
		"up -1":                          {Kind: 5, A: -1},
		"deliver 12":                     {Kind: 6, A: 12},
		"copy 7":                         {Kind: 7, A: 7},
		"drop 9223372036854775807":       {Kind: 8, A: math.MaxInt},
		"trim 4 2":                       {Kind: 9, A: 4, B: 2},
		"trim 0 -9223372036854775808":    {Kind: 9, B: math.MinInt},
		"flip 1 0 255":                   {Kind: 10, A: 1, C: 255},
		"flip -1 -2 -3":                  {Kind: 10, A: -1, B: -2, C: -3},
		"op 0":                           {Kind: 0},
		"op 11":                          {Kind: 11},
		"op -1":                          {Kind: -1},
		"op 9223372036854775807":         {Kind: math.MaxInt},
		"op -9223372036854775808":        {Kind: math.MinInt},
		"flip 4294967295 10 -4294967296": {Kind: 10, A: 4294967295, B: 10, C: -4294967296},
	}
}

// TestPrintOp: P25.1, P25.2: each kind's line, there and back.
func TestPrintOp(t *testing.T) {
	for line, o := range lines() {
		if got := text.PrintOp(o); got != line {
			t.Errorf("P25.1: PrintOp(%+v) = %q, want %q", o, got, line)
		}
		for _, spaced := range []string{line, " " + line, line + "\r", "\t \r" + line + " \t\r "} {
			got, err := text.ParseOp(spaced)
			wantBare(t, "P25.2: "+strconv.Quote(spaced), err, nil)
			if got != o {
				t.Errorf("P25.2: ParseOp(%q) = %+v, want %+v", spaced, got, o)
			}
		}
	}
}

// TestExample1: P25.1, P25.2: the chapter's example 1.
func TestExample1(t *testing.T) {
	for _, x := range []struct {
		o    api.Op
		line string
	}{
		{api.Op{Kind: 9, A: 4, B: 2, C: 7}, "trim 4 2"}, {api.Op{Kind: 1, A: 3}, "frame"}, {api.Op{Kind: 0, A: 3}, "op 0"},
	} {
		if got := text.PrintOp(x.o); got != x.line {
			t.Errorf("P25.1: PrintOp(%+v) = %q, want %q", x.o, got, x.line)
		}
	}
	o, err := text.ParseOp("  flip 1  0 255 ")
	wantBare(t, "P25.2: ParseOp", err, nil)
	if o != (api.Op{Kind: 10, A: 1, C: 255}) {
		t.Errorf("P25.2: ParseOp: %+v", o)
	}
	for _, line := range []string{"frame 1", "move", "op 3", "move 01", ""} {
		_, err := text.ParseOp(line)
		wantBare(t, "P25.2: "+line, err, api.ErrText)
	}
}

// TestNoOp: P25.2: what is no step.
func TestNoOp(t *testing.T) {
	wrong := []string{
		"", " ", "\t\r", "#", "# frame", "#frame", "frame #", "frame\n", "\nframe", "\n", "frame\nframe", "move\n1", "frame\v", "frame\f", "frame\u00a0", "frame\x00", "\ufeffframe", "frame\xff",
		"Frame", "FRAME", "fram", "frames", "frame1", "frame 0", "frame frame", "move", "move 1 2", "abort", "abort 1 1", "crash", "crash x", "up", "up 1 0", "deliver", "deliver 1 2", "copy", "copy 1 2", "drop", "drop 1 2",
		"trim", "trim 1", "trim 1 2 3", "flip", "flip 1", "flip 1 2", "flip 1 2 3 4", "op", "op 1 2", "op 0 0", "op frame", "config 1 1", "window 0 0 1", "1 move", "move,1",
	}
	for n := 1; n <= 10; n++ {
		wrong = append(wrong, "op "+strconv.Itoa(n))
	}
	for _, number := range noNumbers() {
		wrong = append(wrong, "move "+number, "op "+number, "flip 1 "+number+" 1", "trim 1 "+number)
	}
	for _, line := range wrong {
		o, err := text.ParseOp(line)
		wantBare(t, "P25.2: "+strconv.Quote(line), err, api.ErrText)
		if o != (api.Op{}) {
			t.Errorf("P25.2: ParseOp(%q): %+v beside an error", line, o)
		}
	}
}

// noNumbers: words that are no number.
func noNumbers() []string {
	return []string{"-", "--1", "+1", "+0", "-0", "00", "01", "-01", "007", "1_000", "0x1", "0b1", "0o7", "1.0", "1e3", "1-", "١", "１", "a", "1a", "9223372036854775808", "-9223372036854775809", "18446744073709551616", "99999999999999999999999999", "-99999999999999999999999999", "\v1", "1\v", "1\x00"}
}

// TestSomeOps: P25.1, P25.2: PrintOp(o) is PrintOp(Plain(o)), and is read back as Plain(o).
func TestSomeOps(t *testing.T) {
	r := rand.New(rand.NewSource(251))
	for range 5000 {
		o := someOp(r)
		line := text.PrintOp(o)
		if again := text.PrintOp(text.Plain(o)); again != line {
			t.Fatalf("P25.1: PrintOp(%+v) is %q, of the plain op %q", o, line, again)
		}
		back, err := text.ParseOp(line)
		wantBare(t, "P25.2: "+line, err, nil)
		if back != text.Plain(o) || t.Failed() {
			t.Fatalf("P25.2: ParseOp(%q) = %+v of %+v", line, back, o)
		}
	}
}
