package run_test

import (
	"fmt"
	"math"
	"strings"
	"testing"

	"ferry/run"
)

// counting is H of DOC.md's examples.
const counting = `config 50 8
part 0 mobile
page rx -
code addi r4 r4 7
code sb r4 r0 64
code addi r1 r0 0
code addi r2 r0 64
code addi r3 r0 1
code sys 13
code addi r1 r0 41
code sys 3
code beq r0 r0 -9
page rw -
proc 0 1 auto
port sampleout 1
window 0 0 20
window snap 20 30
`

const (
	// carried: a migration up to the release, and what Run tells of it.
	carried = "move 0;frame;frame;deliver 1;deliver 2;deliver 3;deliver 4;deliver 5;deliver 6;deliver 7;frame;deliver 8;frame;deliver 11;deliver 9;deliver 10;deliver 12;deliver 13;deliver 14;frame"
	there   = "1 ok;2 ok;  m0 p0 f0 port 0 07;  p0 begun m0;3 ok letter 3;  m0 p0 f1 port 0 0e;4 ok letter 4;5 ok letter 5;6 ok letter 7;7 ok;8 ok;9 ok;10 ok;11 ok letter 8;  p0 frozen m0;12 ok;13 ok letter 11;14 ok;15 ok letter 12;16 ok letter 14;17 ok;18 ok;19 ok;20 ok letter 16;  p0 released m0"
)

// TestWhole: P27.3: the examples 1 to 5, 9 and 10 of the whole.
func TestWhole(t *testing.T) {
	for _, x := range []struct{ steps, want string }{
		{"frame;frame", "1 ok;  m0 p0 f0 port 0 07;2 ok;  m0 p0 f1 port 0 0e;p0 at m0 frame 2 sum 3459789899"},
		{"move 0;frame;frame", "1 ok;2 ok;  m0 p0 f0 port 0 07;  p0 begun m0;3 ok letter 3;  m0 p0 f1 port 0 0e;p0 at m0 frame 2 sum 3459789899"},
		{"move 0;frame;abort 0;frame;abort 0;frame", "1 ok;2 ok;  m0 p0 f0 port 0 07;  p0 begun m0;3 ok;4 ok letter 1;  m0 p0 f1 port 0 0e;  p0 aborted m0;5 none;6 ok;  m0 p0 f2 port 0 15;p0 at m0 frame 3 sum 3592190391"},
		{"move 1;move 0;move 0;crash 2;crash 1;crash 1;up 0;move 0;deliver 1;flip 1 0 1;op 99", "1 argument;2 ok;3 busy;4 argument;5 ok;6 down;7 busy;8 busy;9 none;10 none;11 kind;p0 at m0 frame 0 sum 444369389"},
		{"crash 0;frame;up 0;frame;move 0", "1 ok;2 ok;  p0 lost m0;3 ok;4 ok;5 lost;p0 lost"},
		{carried + ";deliver 16;deliver 15;frame;deliver 18;deliver 17;deliver 19;frame;frame", there + ";21 ok;22 ok;23 ok letter 18;  m1 p0 f2 port 0 15;  p0 started m1;24 ok;25 ok letter 19;26 ok;27 ok;  m1 p0 f3 port 0 1c;  p0 over m1;28 ok;  m1 p0 f4 port 0 23;p0 at m1 frame 5 sum 4285513915"},
		{carried + ";crash 1;deliver 16;deliver 15;frame;frame;frame", there + ";21 ok;22 ok;23 ok;24 ok;  m0 p0 f2 port 0 15;  p0 back m0;25 ok;  m0 p0 f3 port 0 1c;26 ok;  m0 p0 f4 port 0 23;p0 at m0 frame 5 sum 4285513915"},
	} {
		wantText(t, "P27.3: Run of "+x.steps, run.Run(counting+steps(x.steps)), steps(x.want))
	}
}

// TestEnds: P27.3: at, held, lost, gone.
func TestEnds(t *testing.T) {
	held := "p0 held frame 2 sum 3459789899"
	gone := "p0 gone"
	for _, x := range []struct{ steps, end string }{
		{"", "p0 at m0 frame 0 sum 444369389"},
		{"move 0", "p0 at m0 frame 0 sum 444369389"},
		// What a checkpoint marks isn't in the sum.
		{"move 0;frame;frame;abort 0;frame", "p0 at m0 frame 3 sum 3592190391"},
		{carried[:strings.Index(carried, ";deliver 8")], held},
		{carried, held},
		{carried + ";deliver 16;deliver 15", held},
		{carried + ";crash 1", held},
		{carried + ";deliver 16;deliver 15;frame", "p0 at m1 frame 3 sum 3592190391"},
		{carried + ";crash 0", gone},
		{carried + ";crash 0;frame", "p0 at m1 frame 3 sum 3592190391"},
		{"crash 0", gone},
		{"crash 0;up 0", gone},
		{"crash 0;frame", "p0 lost"},
		{"crash 0;up 0;frame", "p0 lost"},
	} {
		source := counting
		if x.steps != "" {
			source += steps(x.steps)
		}
		told := strings.Split(run.Run(source), "\n")
		if len(told) < 2 || told[len(told)-1] != "" || told[len(told)-2] != x.end {
			t.Errorf("P27.3: Run of %q ends with %q, want %q", x.steps, told[max(0, len(told)-3):], x.end)
		}
	}
}

// several: three partitions of two modules, and a channel; 0 and 1 raise their frames, 2 says what comes.
const several = `config 100 4
part 0 fixed
page rx -
code sys 5
code addi r1 r2 0
code addi r2 r0 0
code sys 6
code addi r1 r0 0
code addi r2 r0 60
code addi r3 r0 2
code sys 13
code addi r1 r0 90
code sys 3
code beq r0 r0 -11
proc 0 5 auto
port queueout 4 1
part 1 mobile
page rx -
code sys 5
code addi r1 r2 0
code sys 6
code addi r1 r0 91
code sys 3
code beq r0 r0 -6
proc 0 5 auto
port samplein 2 3
part 0 fixed
page rwx -
code addi r1 r0 0
code addi r2 r0 32
code sys 12
code addi r4 r1 0
code lb r1 r0 33
code sys 6
code sys 99
page rw -
proc 0 5 auto
port queuein 4 2
window 1 0 30
window 0 30 30
window 2 60 30
window snap 90 10
link 0 0 2 0
input 1 0 0 0102
input 1 1 0 010203
input 1 1 5 -
input 2 0 0 0a0b
input 1 3 -1 -
`

// TestSeveral: P27.3: module 0's partitions by number, then module 1's; the ends by number.
func TestSeveral(t *testing.T) {
	s := parsed(t, several)
	_, first := aloneFrames(t, s, 1, 2)
	want := lines(
		"1 ok",
		"  m0 p0 f0 port 0 0000",
		"  m0 p0 f0 raise 0 proc 0 pc 12",
		"  m0 p2 f0 raise 11 proc 0 pc 20",
		"  m0 p2 f0 fault 8 proc 0 pc 24",
		"  m1 p1 f0 raise 0 proc 0 pc 8",
		"2 ok",
		"  m0 p0 f1 port 0 0000",
		"  m0 p0 f1 raise 1 proc 0 pc 12",
		"  m1 p1 f1 drop 0 proc -1 pc 0",
		"  m1 p1 f1 drop 5 proc -1 pc 0",
		"  m1 p1 f1 raise 1 proc 0 pc 8",
		"3 ok",
	)
	told := run.Run(several + "frame\nframe\ncrash 0\n")
	wantText(t, "P27.3: Run", told, want+lines("p0 lost", "p1 at m1 "+stands(t, s.Config.Parts[1], first[2]), "p2 lost"))
	wantText(t, "P27.6: Judge", run.Judge(several+"frame\nframe\ncrash 0\n"), lines("p0 joined", "p1 as alone", "p2 joined"))
	wantText(t, "P27.4: Alone", run.Alone(several, 1, 2), lines("  p1 f0 raise 0 proc 0 pc 8", "  p1 f1 drop 0 proc -1 pc 0", "  p1 f1 drop 5 proc -1 pc 0", "  p1 f1 raise 1 proc 0 pc 8", "p1 "+stands(t, s.Config.Parts[1], first[2])))
	wantText(t, "P27.4: Alone of one with a channel", run.Alone(several, 0, 2), "refused kind\n")
	wantText(t, "P27.4: Alone of one with a channel", run.Alone(several, 2, 0), "refused kind\n")
}

// TestAlone: P27.4: example 6 of the whole, and how many frames there may be.
func TestAlone(t *testing.T) {
	wantText(t, "P27.4: Alone", run.Alone(counting, 0, 3), steps("  p0 f0 port 0 07;  p0 f1 port 0 0e;  p0 f2 port 0 15;p0 frame 3 sum 3592190391"))
	wantText(t, "P27.4: Alone of no frames", run.Alone(counting, 0, 0), "p0 frame 0 sum 444369389\n")
	// The steps don't matter, but the text must be right.
	wantText(t, "P27.4: Alone beside steps", run.Alone(counting+"crash 0\nframe\n", 0, 1), run.Alone(counting, 0, 1))
	wantText(t, "P27.4: Alone with a wrong step", run.Alone(counting+"crash\n", 0, 1), "line 18 text\n")
	s := parsed(t, counting)
	want := aloneTold(t, s, 0, 1000)
	for _, frames := range []int{1000, 1001, 1000000, 1000001, math.MaxInt} {
		wantText(t, fmt.Sprintf("P27.4: Alone of %d frames", frames), run.Alone(counting, 0, frames), want)
	}
	wantText(t, "P27.4: Alone of 999 frames", run.Alone(counting, 0, 999), aloneTold(t, s, 0, 999))
	for _, frames := range []int{-1, math.MinInt} {
		wantText(t, "P27.4: Alone of fewer frames than none", run.Alone(counting, 0, frames), "refused argument\n")
	}
	for _, n := range []int{-1, 1, 8, math.MinInt, math.MaxInt} {
		for _, frames := range []int{0, 1, -1, 1001} {
			wantText(t, "P27.4: Alone of no partition", run.Alone(counting, n, frames), "refused argument\n")
		}
	}
}

// TestJudge: P27.6: example 7 of the whole, and partitions of which nothing is told.
func TestJudge(t *testing.T) {
	for _, x := range []string{"frame;move 0;frame;frame;crash 0;frame", "frame", "crash 0;crash 1;frame;frame", carried, carried + ";crash 0;frame;frame"} {
		wantText(t, "P27.6: Judge", run.Judge(counting+steps(x)), "p0 as alone\n")
	}
	wantText(t, "P27.6: Judge of no steps", run.Judge(counting), "p0 as alone\n")
}

// TestJudgeFar: P27.6: behind a million frames nothing is judged any more: there it parts.
func TestJudgeFar(t *testing.T) {
	t.Parallel()
	idle := "config 1 1\npart 0 fixed\npage r -\nproc 0 0 idle\nwindow 0 0 1\n"
	wantText(t, "P27.6: Judge", run.Judge(idle+"move 0\n"+strings.Repeat("frame\n", 1000002)), "p0 parts at 1000000\n")
}

// TestStill: P27.5: example 8 of the whole, and each kind of step.
func TestStill(t *testing.T) {
	plain := steps("config 50 8;part 0 mobile;page rx 10440007254000401010000010200040103000014000000d10100029400000033000fff7;page rw -;proc 0 1 auto;port sampleout 1;window 0 0 20;window snap 20 30")
	wantText(t, "P27.5: Still", run.Still(counting+steps("frame;move 0;deliver 1;crash 1;op 99;frame")), plain+steps("frame;crash 1;op 99;frame"))
	all := "op 0;frame;move 0;abort 0;crash 7;up -1;deliver 1;copy 2;drop 3;trim 4 5;flip 6 7 8;op 11;op -1;move 1;up 1;op 9223372036854775807;op -9223372036854775808"
	wantText(t, "P27.5: Still", run.Still(counting+steps(all)), plain+steps("op 0;frame;crash 7;up -1;op 11;op -1;up 1;op 9223372036854775807;op -9223372036854775808"))
	wantText(t, "P27.5: Still of no steps", run.Still(counting), plain)
	wantText(t, "P27.5: Still of no other steps", run.Still(counting+"move 0\n"), plain)
	// It need not boot.
	wantText(t, "P27.5: Still of what doesn't boot", run.Still("# x\n\n config\t0   1 \r\nmove 3\nup 9\n"), "config 0 1\nup 9\n")
	wantText(t, "P27.5: Still of what doesn't boot", run.Still("config -1 -1\npart 7 fixed\nwindow 9 -1 -1\nlink 1 2 3 4\ninput 5 6 7 -\n"), "config -1 -1\npart 7 fixed\nwindow 9 -1 -1\nlink 1 2 3 4\ninput 5 6 7 -\n")
}

// TestWrongTexts: P27.3 to P27.6: the line's number, and nothing else.
func TestWrongTexts(t *testing.T) {
	for source, line := range map[string]int{
		"": 1, "\n": 2, "# x\n": 2, "# x": 2, "\n\n\n": 4, "frame\n": 1, "x": 1, "config 1\n": 1, "\xff\x00": 1,
		counting + "frame 1\n": 18, counting + "\n\nfoo": 20, counting + "frame\nwindow 0 0 20\n": 19,
		"config 1 1\npart 0 fixed\ncode sys 1\n": 3,
	} {
		want := fmt.Sprintf("line %d text\n", line)
		for _, got := range []string{run.Run(source), run.Alone(source, 0, 1), run.Alone(source, -1, -1), run.Still(source), run.Judge(source)} {
			wantText(t, fmt.Sprintf("P27.3: %.60q", source), got, want)
		}
	}
}

// TestRefused: P27.3, P27.4, P27.6: a configuration that isn't in form, with the place where one is told.
func TestRefused(t *testing.T) {
	one := "part 0 fixed\npage r -\nproc 0 0 idle\n"
	out, in := one+"port queueout 1 1\n", one+"port queuein 1 1\n"
	for source, want := range map[string]string{
		"config 0 1\n":                                 "range",
		"config 10001 1\n":                             "range",
		"config 10 0\n":                                "range",
		"config 10 65\n":                               "range",
		"config 10 1\n":                                "size",
		"config 10 1\n" + strings.Repeat(one, 9):       "size",
		"config 10 1\npart 0 fixed\n":                  "plan at 0",
		"config 10 1\n" + one + "part 0 fixed\n":       "plan at 1",
		"config 10 1\n" + one + "page rx -\nsem 256\n": "plan at 0",
		"config 10 1\npart 2 fixed\npage r -\nproc 0 0 idle\nwindow 0 0 1\n":                               "range at 0",
		"config 10 1\n" + one + "window 1 0 1\n":                                                           "argument at 0",
		"config 10 1\n" + one + "window 0 0 11\n":                                                          "range at 0",
		"config 10 1\n" + one + "window 0 0 5\nwindow 0 4 1\n":                                             "busy at 1",
		"config 10 1\n" + one:                                                                              "none at 0",
		"config 10 1\n" + one + strings.Repeat("window 0 0 1\n", 33):                                       "size",
		"config 10 1\n" + one + one + "window 0 0 1\n":                                                     "none at 1",
		"config 10 1\npart 0 mobile\npage r -\nproc 0 0 idle\nwindow 0 0 1\n":                              "none",
		"config 10 1\n" + out + in + "window 0 0 1\nwindow 1 1 1\nlink 0 0 0 0\n":                          "argument at 0",
		"config 10 1\n" + out + in + "window 0 0 1\nwindow 1 1 1\nlink 0 0 1 0\nlink 1 0 0 0\n":            "kind at 1",
		"config 10 1\n" + out + in + "window 0 0 1\nwindow 1 1 1\n" + strings.Repeat("link 0 0 1 0\n", 17): "size",
	} {
		for _, got := range []string{run.Run(source + "frame\n"), run.Alone(source, 0, 1), run.Alone(source, -1, -1), run.Judge(source + "frame\n")} {
			wantText(t, fmt.Sprintf("P27.3: %.200q", source), got, "refused "+want+"\n")
		}
		if s := parsed(t, source); run.Still(source) != printed(t, s) {
			t.Errorf("P27.5: Still of %q refuses", source)
		}
	}
}

// TestEveryWord: P27.3: codes that a step can answer, each as its word.
func TestEveryWord(t *testing.T) {
	letters := counting + "move 0\nframe\nframe\n"
	for steps, want := range map[string]string{
		"trim 1 200\ndeliver 1\n": "5 short", "flip 1 0 1\ndeliver 1\n": "5 sum", "flip 1 -1 1\n": "4 argument", "op 11\n": "4 kind",
		"crash 1\nmove 0\n": "5 busy", "move 0\n": "4 busy", "drop 1\ndeliver 1\n": "5 none", "copy 1\n": "4 ok letter 4", "up 3\n": "4 argument",
		"abort 0\nframe\ncrash 1\nmove 0\n": "7 down", "crash 0\nframe\nmove 0\n": "6 lost", "crash 0\nup 0\nmove 0\n": "6 none",
	} {
		told := strings.Split(run.Run(letters+steps), "\n")
		if at := len(told) - 3; told[at] != want {
			t.Errorf("P27.3: %q: %q, want %q", steps, told[at], want)
		}
	}
}
