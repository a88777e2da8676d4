package part_test

import (
	"math"
	"slices"
	"testing"

	"ferry/api"
	"ferry/part"
)

// counts: each frame it adds 7 to a register, writes its lowest byte to its port, and sleeps till the next frame (DOC.md).
func counts(t *testing.T) (api.Plan, api.State) {
	t.Helper()
	p := api.Plan{
		Pages: []api.PagePlan{
			{Rights: 5, Init: words(t, "addi r4 r4 7; sb r4 r0 64; addi r1 r0 0; addi r2 r0 64; addi r3 r0 1; sys 13; addi r1 r0 41; sys 3; beq r0 r0 -9")},
			{Rights: 3},
		},
		Procs: []api.ProcPlan{{Prio: 1, Auto: true}}, Ports: []api.PortPlan{{Kind: api.SampleOut, Size: 1, Depth: 1}},
	}
	return p, boot(t, p)
}

func sameOuts(a, b []api.Out) bool {
	return slices.EqualFunc(a, b, func(a, b api.Out) bool { return slices.Equal(a.Msgs, b.Msgs) && slices.Equal(a.Reports, b.Reports) })
}

// wantNothing looks whether that error was answered, without a place, and nothing beside it.
func wantNothing(t *testing.T, what string, s api.State, outs []api.Out, err, want error) {
	t.Helper()
	wantBare(t, what, err, want)
	if !same(s, api.State{}) || !sameOuts(outs, make([]api.Out, min(1, len(outs)))) {
		t.Errorf("%s: beside an error %v, %v", what, s, outs)
	}
}

func TestFrames(t *testing.T) {
	p, b := counts(t)
	windows := []api.Window{{Part: 9, Start: 0, Len: 20}}
	s, outs, err := part.Frames(p, b, 50, windows, make([][]api.Msg, 40))
	if err != nil || s.Frame != 40 || len(outs) != 40 {
		t.Fatalf("P13.2: Frames: frame %d, %d outs, %v", s.Frame, len(outs), err)
	}
	for i, out := range outs {
		if want := []api.Msg{{Port: 0, Data: string([]byte{byte(7 * (i + 1))})}}; !slices.Equal(out.Msgs, want) || len(out.Reports) > 0 {
			t.Errorf("P13.2: frame %d: %v, want %v", i, out, want)
		}
	}
	behind := frame(t, p, b, 50, windows)
	wantTimers(t, "P13.2: behind a frame", behind, api.Timer{Proc: 0, Due: 0})
	behind = frame(t, p, b, 40, windows)
	wantTimers(t, "P13.2: behind a shorter frame", behind, api.Timer{Proc: 0, Due: 9})
}

// frame: the state behind one.
func frame(t *testing.T, p api.Plan, s api.State, ticks int, windows []api.Window) api.State {
	t.Helper()
	look := keptAll(t, p, s)
	after, out, err := part.Frame(p, s, ticks, windows, nil)
	wantBare(t, "P13.2: Frame", err, nil)
	look("Frame")
	wantApart(t, "P13.6: Frame", p, s, windows, after, out)
	return after
}

// TestFrameWithoutWindows: example 9's second half.
func TestFrameWithoutWindows(t *testing.T) {
	p, b := example(t, "sys 1", "sys 1")
	b.Procs[1].State, b.Procs[1].Wait, b.Ready = api.Waiting, api.WaitSleep, []int{0}
	b.Timers = []api.Timer{{Proc: 1, Due: 12}}
	want := roomy(b)
	want.Frame, want.Timers[0].Due = 1, 2
	s, out, err := part.Frame(p, b, 10, nil, nil)
	if err != nil || !same(s, want) || len(out.Msgs) > 0 || len(out.Reports) > 0 {
		t.Errorf("P13.2: a frame without windows: %v, %v, %v", s, out, err)
	}
	s, out, err = part.Frame(p, b, 10, []api.Window{}, []api.Msg{{Port: 3, Data: "x"}})
	if err != nil || !same(s, want) || len(out.Msgs) > 0 || !slices.Equal(out.Reports, []api.Report{{Kind: api.ReportDrop, Proc: -1, Code: 3}}) {
		t.Errorf("P13.2: a frame without windows, with a message: %v, %v, %v", s, out, err)
	}
	s, outs, err := part.Frames(p, b, 10, []api.Window{{Start: 0, Len: 10}}, nil)
	if err != nil || !same(s, b) || len(outs) > 0 {
		t.Errorf("P13.2: no frames: %v, %v, %v", s, outs, err)
	}
	wantApart(t, "P13.6: no frames", p, b, s)
}

// TestReportsInOrder: those of the begin, then those of one window after the other; each frame's by themselves.
func TestReportsInOrder(t *testing.T) {
	p, b := example(t, "sys 6; sys 3; beq r0 r0 -3", "sys 6; sys 1")
	windows := []api.Window{{Start: 2, Len: 2}, {Start: 7, Len: 3}}
	msgs := [][]api.Msg{{{Port: 8}, {Port: 7}}, nil, {{Port: 6}}}
	drop := func(code uint32) api.Report { return api.Report{Kind: api.ReportDrop, Proc: -1, Code: code} }
	raise := func(proc int, pc uint32) api.Report {
		return api.Report{Kind: api.ReportRaise, Proc: proc, Pc: pc}
	}
	want := []api.Out{{Reports: []api.Report{drop(8), drop(7), raise(0, 0), raise(1, 32)}}, {Reports: []api.Report{raise(0, 0), raise(0, 0)}}, {Reports: []api.Report{drop(6), raise(0, 0), raise(0, 0)}}}
	s, outs, err := part.Frames(p, b, 10, windows, msgs)
	if err != nil || !sameOuts(outs, want) {
		t.Errorf("P13.2: %v, %v, want %v", outs, err, want)
	}
	wantApart(t, "P13.6: Frames", p, b, windows, msgs, s, outs)
}

// wrongFrames: ticks and windows that are refused.
func wrongFrames() map[int][][]api.Window {
	return map[int][][]api.Window{
		0: {nil}, -1: {nil}, 10001: {nil}, math.MaxInt: {nil}, math.MinInt: {nil, {{Start: 0, Len: 1}}},
		10: {
			{{Start: 0, Len: 5}, {Start: 4, Len: 2}}, {{Start: 4, Len: 2}, {Start: 0, Len: 4}}, {{Start: 2, Len: 2}, {Start: 2, Len: 2}},
			{{Start: 0, Len: 11}}, {{Start: 9, Len: 2}}, {{Start: 10, Len: 1}}, {{Start: 6, Len: 5}}, {{Start: -1, Len: 3}},
			{{Start: 0, Len: 0}}, {{Start: 3, Len: -1}}, {{Start: 0, Len: 3}, {Start: 5, Len: 0}}, {{Start: 3, Len: 2}, {Start: 4, Len: -1}},
			{{Start: 1, Len: math.MaxInt}}, {{Start: math.MaxInt, Len: 1}}, {{Start: math.MaxInt, Len: math.MaxInt}},
			{{Start: math.MinInt, Len: 1}}, {{Start: math.MinInt, Len: math.MaxInt}}, {{Start: 1, Len: math.MinInt}}, {{Start: 0, Len: 5}, {Start: math.MinInt, Len: 1}},
		},
		9999: {{{Start: 0, Len: 10000}}},
	}
}

func TestFrameArguments(t *testing.T) {
	p, b := example(t, round, round)
	last := roomy(b)
	last.Frame = api.MaxFrames
	for ticks, lists := range wrongFrames() {
		for _, windows := range lists {
			for _, s := range []api.State{b, last} {
				s2, out, err := part.Frame(p, s, ticks, windows, nil)
				wantNothing(t, "P13.2: Frame", s2, []api.Out{out}, err, api.ErrArg)
				for _, n := range []int{0, 1, 2} {
					s2, outs, err := part.Frames(p, s, ticks, windows, make([][]api.Msg, n))
					wantNothing(t, "P13.2: Frames", s2, outs, err, api.ErrArg)
				}
			}
		}
	}
	for ticks, windows := range map[int][]api.Window{
		1: {{Start: 0, Len: 1}}, 10: {{Part: -7, Start: 0, Len: 5}, {Part: 99, Start: 5, Len: 5}}, 11: {{Start: 0, Len: 1}, {Start: 10, Len: 1}},
		10000: {{Start: 0, Len: 10000}}, 9999: {{Start: 9998, Len: 1}},
	} {
		frame(t, p, b, ticks, windows)
	}
	for _, ticks := range []int{0, -1, 10001, math.MinInt, math.MaxInt} {
		for _, s := range []api.State{b, last} {
			s2, msgs, err := part.End(p, s, ticks)
			wantBare(t, "P13.1: End", err, api.ErrArg)
			if !same(s2, api.State{}) || msgs != nil {
				t.Errorf("P13.1: End beside an error: %v, %v", s2, msgs)
			}
		}
	}
}

// TestLastFrame: example 10, and Frames that would go beyond the last one.
func TestLastFrame(t *testing.T) {
	p, b := counts(t)
	b.Frame = api.MaxFrames
	s, reports, err := part.Begin(p, b, []api.Msg{{Port: 9}})
	wantBare(t, "P13.1: Begin", err, api.ErrEnd)
	s2, msgs, err := part.End(p, b, 10)
	wantBare(t, "P13.1: End", err, api.ErrEnd)
	if !same(s, api.State{}) || reports != nil || !same(s2, api.State{}) || msgs != nil {
		t.Errorf("P13.1: beside an error: %v, %v, %v, %v", s, reports, s2, msgs)
	}
	s, out, err := part.Frame(p, b, 10, nil, nil)
	wantNothing(t, "P13.2: Frame", s, []api.Out{out}, err, api.ErrEnd)
	window(t, p, b, 0, 10)
	windows := []api.Window{{Start: 0, Len: 20}}
	for left := range 3 {
		b.Frame = api.MaxFrames - left
		for n := range 5 {
			s, outs, err := part.Frames(p, b, 50, windows, make([][]api.Msg, n))
			if n > left {
				wantNothing(t, "P13.2: Frames", s, outs, err, api.ErrEnd)
			} else if err != nil || s.Frame != b.Frame+n || len(outs) != n {
				t.Errorf("P13.2: %d frames where %d are left: frame %d, %v", n, left, s.Frame, err)
			}
		}
	}
	b.Frame = api.MaxFrames - 1
	if s, _ := end(t, p, b, 10); s.Frame != api.MaxFrames {
		t.Errorf("P13.1: End of the last frame: %d", s.Frame)
	}
	begin(t, p, b)
}

// TestOutOfForm: the plan first, then the state, then the arguments; no place is told.
func TestOutOfForm(t *testing.T) {
	p, b := example(t, round, round)
	none := p
	none.Procs = nil
	bad := roomy(b)
	bad.Ready, bad.Frame = nil, api.MaxFrames
	for _, c := range []struct {
		p    api.Plan
		s    api.State
		want error
	}{{none, b, api.ErrPlan}, {none, bad, api.ErrPlan}, {p, bad, api.ErrState}, {p, api.State{}, api.ErrState}} {
		look := keptAll(t, c.p, c.s)
		for _, n := range []int{1, 0, -1} {
			s, _, err := part.Window(c.p, c.s, n, n)
			wantNothing(t, "P13.1: Window", s, nil, err, c.want)
			s, _, err = part.End(c.p, c.s, n)
			wantNothing(t, "P13.1: End", s, nil, err, c.want)
			s, out, err := part.Frame(c.p, c.s, n, nil, nil)
			wantNothing(t, "P13.2: Frame", s, []api.Out{out}, err, c.want)
			s, outs, err := part.Frames(c.p, c.s, n, nil, make([][]api.Msg, 1+n))
			wantNothing(t, "P13.2: Frames", s, outs, err, c.want)
		}
		s, reports, err := part.Begin(c.p, c.s, []api.Msg{{Port: 5}})
		wantNothing(t, "P13.1: Begin", s, []api.Out{{Reports: reports}}, err, c.want)
		look("a call that is refused")
	}
}
