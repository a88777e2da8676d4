package mirror_test

import (
	"fmt"
	"math"
	"reflect"
	"testing"

	"ferry/api"
	"ferry/mirror"
)

// example: c of the chapter's examples.
func example(t *testing.T) api.Config {
	t.Helper()
	code := assembled(t, "loop: addi r1 r0 0\naddi r2 r0 64\nsys 12\nblts r1 r0 quiet\naddi r3 r1 0\naddi r1 r0 1\naddi r2 r0 64\nsys 13\nquiet: addi r1 r0 91\nsys 3\nbeq r0 r0 loop")
	return api.Config{
		Ticks: 100, Tries: 5, Homes: []int{0},
		Parts: []api.Plan{{
			Pages: []api.PagePlan{{Rights: api.Read | api.Execute, Init: code}, {Rights: api.Read | api.Write}},
			Procs: []api.ProcPlan{{Auto: true}},
			Ports: []api.PortPlan{{Kind: api.QueueIn, Size: 4, Depth: 2}, {Kind: api.QueueOut, Size: 4, Depth: 2}},
		}},
		Windows: []api.Window{{Part: 0, Start: 5, Len: 50}},
	}
}

// idle: a partition that does nothing: so many frames of it can be run.
func idle() api.Config {
	return api.Config{
		Ticks: 1, Tries: 1, Homes: []int{1},
		Parts:   []api.Plan{{Pages: []api.PagePlan{{Rights: 1}}, Procs: []api.ProcPlan{{}}}},
		Windows: []api.Window{{Part: 0, Start: 0, Len: 1}},
	}
}

func TestExample1(t *testing.T) {
	inputs := []api.Input{{Part: 0, Frame: 2, Data: "a"}, {Part: 1, Frame: 2, Data: "x"}, {Part: 0, Frame: 2, Data: "b"}, {Part: 0, Frame: 3, Data: "c"}}
	wantSame(t, "P26.1: Feed", mirror.Feed(inputs, 0, 2, 2), [][]api.Msg{{{Data: "a"}, {Data: "b"}}, {{Data: "c"}}})
	wantSame(t, "P26.1: Feed of no frames", mirror.Feed(inputs, 0, 0, 0), [][]api.Msg{})
	wantSame(t, "P26.1: Feed of another one", mirror.Feed(inputs, 1, 1, 3), [][]api.Msg{nil, {{Data: "x"}}, nil})
}

// TestFeedNumbers: P26.1: any numbers at all.
func TestFeedNumbers(t *testing.T) {
	for frames, want := range map[int]int{math.MinInt: 0, -1: 0, 0: 0, 1: 1, 999999: 999999, 1000000: 1000000, 1000001: 1000000, math.MaxInt: 1000000} {
		if l := mirror.Feed(nil, 0, 0, frames); len(l) != want {
			t.Errorf("P26.1: Feed of %d frames has %d lists", frames, len(l))
		}
	}
	numbers := []int{math.MinInt, math.MinInt + 1, math.MinInt + 2, -1000000, -2, -1, 0, 1, 2, 1000000, math.MaxInt - 2, math.MaxInt - 1, math.MaxInt}
	var inputs []api.Input
	for i, n := range numbers {
		for _, part := range numbers {
			inputs = append(inputs, api.Input{Part: part, Frame: n, Port: i - 5, Data: fmt.Sprint(n)})
		}
	}
	for _, part := range numbers {
		for _, from := range numbers {
			for _, frames := range []int{1, 2, 3, 5} {
				want := make([][]api.Msg, frames)
				for i := range frames {
					for k, n := range numbers {
						if i <= math.MaxInt-max(from, 0) && n == from+i {
							want[i] = append(want[i], api.Msg{Port: k - 5, Data: fmt.Sprint(n)})
						}
					}
				}
				wantSame(t, fmt.Sprintf("P26.1: Feed(.., %d, %d, %d)", part, from, frames), mirror.Feed(inputs, part, from, frames), want)
			}
		}
	}
	far := mirror.Feed(inputs, 1, -1000000, 1000001)
	for i, l := range far {
		if wanted := i == 0 || i >= 999998; (len(l) == 1) != wanted || len(l) > 1 {
			t.Errorf("P26.1: Feed of a million frames: %d messages in list %d", len(l), i)
		}
	}
}

func TestExample2(t *testing.T) {
	c := example(t)
	outs, s := run(t, c, 0, nil, 3)
	wantSame(t, "P26.1: Run", outs, make([]api.Out, 3))
	if s.Frame != 3 {
		t.Errorf("P26.1: the state behind three frames has the frame %d", s.Frame)
	}
	_, _, err := mirror.Run(c, 1, nil, 3)
	wantBare(t, "P26.1: Run of another one", err, api.ErrArg)
	_, _, err = mirror.Run(c, 0, nil, -1)
	wantBare(t, "P26.1: Run of -1 frames", err, api.ErrArg)
	_, _, err = mirror.Onward(c, 0, edited(s, func(s *api.State) { s.Id = 1 }), nil, 1)
	wantBare(t, "P26.1: Onward of another one's state", err, api.ErrState)
}

// TestEcho: P26.1: what comes in a frame is told in it, or in a later one, if there is more than it reads.
func TestEcho(t *testing.T) {
	c := example(t)
	inputs := []api.Input{{Frame: 1, Data: "a"}, {Frame: 1, Data: "b"}, {Frame: 1, Data: "late"}, {Part: 1, Frame: 1, Data: "no"}, {Frame: 3, Port: 1, Data: "c"}, {Frame: 4, Data: "long!"}, {Frame: 5, Data: "d"}, {Frame: -1, Data: "e"}}
	says := func(data string) []api.Msg { return []api.Msg{{Port: 1, Data: data}} }
	drop := func(port uint32) []api.Report { return []api.Report{{Kind: api.ReportDrop, Proc: -1, Code: port}} }
	outs, _ := run(t, c, 0, inputs, 6)
	wantSame(t, "P26.1: Run", outs, []api.Out{{}, {Msgs: says("a"), Reports: drop(0)}, {Msgs: says("b")}, {Reports: drop(1)}, {Reports: drop(0)}, {Msgs: says("d")}})
	// Onward counts the inputs by the state's own Frame.
	_, s := run(t, c, 0, inputs, 5)
	outs, s = onward(t, c, 0, s, inputs, 2)
	wantSame(t, "P26.1: Onward", outs, []api.Out{{Msgs: says("d")}, {}})
	s.Frame = 1
	outs, _ = onward(t, c, 0, s, inputs, 2)
	wantSame(t, "P26.1: Onward from another frame on", outs, []api.Out{{Msgs: says("a"), Reports: drop(0)}, {Msgs: says("b")}})
}

func TestExample3(t *testing.T) {
	c := example(t)
	wantJudged(t, c, nil, 2, api.PartOut{Part: 5, Out: api.Out{Msgs: []api.Msg{{Port: 3}}}}, api.PartOut{Frame: 7})
	wantJudged(t, c, nil, 0, api.PartOut{Module: 1, Frame: -1})
}

func wantJudged(t *testing.T, c api.Config, inputs []api.Input, want int, told ...api.PartOut) {
	t.Helper()
	n, err := mirror.Judge(c, 0, inputs, told)
	wantBare(t, "P26.1: Judge", err, nil)
	if n != want {
		t.Errorf("P26.1: Judge = %d, want %d", n, want)
	}
}

// TestJudge: P26.1: the first one that isn't so, wherever it ran, in whatever order they are told.
func TestJudge(t *testing.T) {
	c := example(t)
	inputs := []api.Input{{Frame: 1, Data: "a"}, {Frame: 1, Data: "b"}}
	a := api.PartOut{Frame: 1, Out: api.Out{Msgs: []api.Msg{{Port: 1, Data: "a"}}}}
	b := api.PartOut{Module: 1, Frame: 2, Out: api.Out{Msgs: []api.Msg{{Port: 1, Data: "b"}}}}
	none := api.PartOut{Frame: 0, Out: api.Out{Msgs: []api.Msg{}, Reports: []api.Report{}}}
	wrong := api.PartOut{Frame: 2}
	other := api.PartOut{Part: -1, Frame: -5}
	wantJudged(t, c, inputs, 0)
	wantJudged(t, c, inputs, 7, other, b, a, none, b, a, other)
	wantJudged(t, c, inputs, 1, a, wrong, b)
	wantJudged(t, c, inputs, 2, a, other, wrong, wrong)
	wantJudged(t, c, inputs, 0, edited(a, func(x *api.PartOut) { x.Frame = 2 }))
	wantJudged(t, c, inputs, 0, edited(b, func(x *api.PartOut) { x.Frame = 1 }))
	wantJudged(t, c, nil, 0, a)
	for _, f := range []int{-1, math.MinInt, 1000000, 1000001, math.MaxInt} {
		wantJudged(t, c, inputs, 2, a, b, api.PartOut{Frame: f}, wrong)
	}
	// What isn't asked for isn't run: this partition would take long for a million frames.
	far := api.PartOut{Frame: 999999}
	busy := example(t)
	busy.Parts[0].Pages[0].Init, busy.Ticks, busy.Windows[0].Len = "\x30\x00\xff\xff", 10000, 9000
	wantJudged(t, busy, nil, 1, api.PartOut{Frame: 2}, a, far)
	wantJudged(t, busy, nil, 1, api.PartOut{Frame: 2}, api.PartOut{Frame: -1}, far)
}

// TestMillion: P26.1: the last frames that are judged, and the last state that may fit.
func TestMillion(t *testing.T) {
	t.Parallel()
	c := idle()
	drop := api.Report{Kind: api.ReportDrop, Proc: -1, Code: 7}
	inputs := []api.Input{{Frame: 999999, Port: 7}, {Frame: 1000000, Port: 8}}
	outs, s := run(t, c, 0, inputs, 1000000)
	if len(outs) != 1000000 || s.Frame != 1000000 {
		t.Fatalf("P26.1: Run of a million frames: %d, frame %d", len(outs), s.Frame)
	}
	wantSame(t, "P26.1: the last frame", outs[999998:], []api.Out{{}, {Reports: []api.Report{drop}}})
	wantJudged(t, c, inputs, 1, api.PartOut{Frame: 999999, Out: outs[999999]})
	wantJudged(t, c, inputs, 0, api.PartOut{Frame: 999999})
	for want, frame := range map[bool]int{true: 1000000, false: 1000001} {
		is, err := mirror.Fits(c, 0, inputs, edited(s, func(s *api.State) { s.Frame = frame }))
		wantBare(t, "P26.1: Fits", err, nil)
		if is != want {
			t.Errorf("P26.1: Fits of frame %d: %v", frame, is)
		}
	}
}

// TestFits: P26.1: the state of its own frame alone, whatever a checkpoint marked.
func TestFits(t *testing.T) {
	c := example(t)
	inputs := []api.Input{{Frame: 1, Data: "a"}, {Frame: 1, Data: "b"}}
	for f, s := range states(t, c, 0, inputs, 4) {
		for want, s := range map[string]api.State{
			"true":     s,
			"true ":    edited(roomy(s), func(s *api.State) { s.Epoch, s.Pages[1].Dirty = -9, !s.Pages[1].Dirty }),
			"false":    edited(s, func(s *api.State) { s.Frame++ }),
			"false ":   edited(roomy(s), func(s *api.State) { s.Pages[1].Data[63]++ }),
			"false  ":  edited(s, func(s *api.State) { s.Frame = -1 }),
			"false   ": {Frame: f},
		} {
			is, err := mirror.Fits(c, 0, inputs, s)
			wantBare(t, "P26.1: Fits", err, nil)
			if is != (want[0] == 't') {
				t.Errorf("P26.1: frame %d: Fits = %v, want %s", f, is, want)
			}
		}
	}
}

// TestSameOut: P26.1.
func TestSameOut(t *testing.T) {
	full := func() api.Out {
		return api.Out{Msgs: []api.Msg{{Port: 1, Data: "a"}, {Port: 2, Data: "b"}}, Reports: []api.Report{{Kind: 1, Proc: 2, Code: 3, Pc: 4}, {Kind: 2}}}
	}
	for what, edit := range map[string]func(o *api.Out){
		"a port":               func(o *api.Out) { o.Msgs[0].Port = 0 },
		"data":                 func(o *api.Out) { o.Msgs[1].Data = "" },
		"a message less":       func(o *api.Out) { o.Msgs = o.Msgs[:1] },
		"no message":           func(o *api.Out) { o.Msgs = nil },
		"messages turned":      func(o *api.Out) { o.Msgs[0], o.Msgs[1] = o.Msgs[1], o.Msgs[0] },
		"a kind":               func(o *api.Out) { o.Reports[0].Kind = 2 },
		"a process":            func(o *api.Out) { o.Reports[1].Proc = 9 },
		"a code":               func(o *api.Out) { o.Reports[0].Code++ },
		"a pc":                 func(o *api.Out) { o.Reports[1].Pc++ },
		"a report more":        func(o *api.Out) { o.Reports = append(o.Reports, api.Report{}) },
		"reports turned":       func(o *api.Out) { o.Reports[0], o.Reports[1] = o.Reports[1], o.Reports[0] },
		"neither of the lists": func(o *api.Out) { *o = api.Out{} },
	} {
		other := full()
		edit(&other)
		if mirror.SameOut(full(), other) || mirror.SameOut(other, full()) {
			t.Errorf("P26.1: SameOut in spite of %s", what)
		}
	}
	empty := api.Out{Msgs: []api.Msg{}, Reports: []api.Report{}}
	if !mirror.SameOut(full(), full()) || !mirror.SameOut(empty, api.Out{}) || !mirror.SameOut(api.Out{}, empty) {
		t.Error("P26.1: SameOut of the same is false")
	}
}

// wantAll: every call that takes a configuration answers that error, without a place, and nothing beside it; those without frames only where these aren't what is wrong.
func wantAll(t *testing.T, what string, c api.Config, self int, s api.State, frames int, wanted error, counted bool) {
	t.Helper()
	zero := func(call string, err error, answers ...any) {
		t.Helper()
		wantBare(t, fmt.Sprintf("P26.1: %s of %s", call, what), err, wanted)
		for _, a := range answers {
			if v := reflect.ValueOf(a); !v.IsZero() && !(v.Kind() == reflect.Slice && v.Len() == 0) {
				t.Errorf("P26.1: %s of %s: beside an error %+v", call, what, a)
			}
		}
	}
	outs, end, err := mirror.Run(c, self, nil, frames)
	zero("Run", err, outs, end)
	outs, end, err = mirror.Onward(c, self, s, nil, frames)
	zero("Onward", err, outs, end)
	all, err := mirror.States(c, self, nil, frames)
	zero("States", err, all)
	if counted {
		return
	}
	n, err := mirror.Judge(c, self, nil, []api.PartOut{{Part: 1, Frame: -1}, {Part: self, Frame: -1}})
	zero("Judge", err, n)
	is, err := mirror.Fits(c, self, nil, s)
	zero("Fits", err, is)
	is, err = mirror.Fits(c, self, nil, api.State{Frame: -1})
	zero("Fits", err, is)
}

// TestRefusals: P26.1: the errors in their order.
func TestRefusals(t *testing.T) {
	c := example(t)
	c.Parts, c.Homes = append(c.Parts, c.Parts[0], c.Parts[0]), []int{0, 1, 0}
	c.Parts[1].Id, c.Parts[2].Id = 1, 2
	c.Windows = append(c.Windows, api.Window{Part: 1, Start: 60, Len: 10}, api.Window{Part: 2, Start: 70, Len: 10})
	c.Links = []api.Link{{From: 1, Out: 1, To: 2, In: 0}}
	good := boot(t, c.Parts[0])
	for what, edit := range map[string]func(c *api.Config){
		"no partition": func(c *api.Config) { *c = api.Config{} },
		"no ticks":     func(c *api.Config) { c.Ticks = 0 },
		"a wrong plan": func(c *api.Config) { c.Parts = append(c.Parts[:2:2], api.Plan{Id: 2}) },
		"a wrong link": func(c *api.Config) { c.Links = []api.Link{{From: 9}} },
	} {
		for _, self := range []int{0, 1, -1, 99} {
			for _, frames := range []int{1, -1} {
				wantAll(t, what, edited(c, edit), self, api.State{}, frames, api.ErrPlan, false)
			}
		}
	}
	for _, self := range []int{-1, -2, 3, 8, math.MinInt, math.MaxInt} {
		for _, frames := range []int{0, 1, -1} {
			wantAll(t, "no such partition", c, self, api.State{}, frames, api.ErrArg, false)
		}
	}
	for _, frames := range []int{-1, 1000001, math.MinInt, math.MaxInt} {
		for self := range 3 {
			wantAll(t, "so many frames", c, self, api.State{}, frames, api.ErrArg, true)
		}
	}
	for _, self := range []int{1, 2} {
		for _, frames := range []int{0, 1, 1000000} {
			wantAll(t, "one with a channel", c, self, api.State{}, frames, api.ErrKind, false)
		}
	}
	outs, s := run(t, c, 0, nil, 0)
	wantSame(t, "P26.1: Run of no frames", outs, []api.Out{})
	wantSame(t, "P26.1: the state behind no frames", s, good)
}

// TestOnwardStates: P26.1: a state that isn't at rest, and the last frames.
func TestOnwardStates(t *testing.T) {
	c := example(t)
	good := boot(t, c.Parts[0])
	for what, edit := range map[string]func(s *api.State){
		"the zero state":       func(s *api.State) { *s = api.State{} },
		"another Id":           func(s *api.State) { s.Id = 3 },
		"a frame below 0":      func(s *api.State) { s.Frame = -1 },
		"a frame too high":     func(s *api.State) { s.Frame = api.MaxFrames + 1 },
		"nobody ready":         func(s *api.State) { s.Ready = nil },
		"a message at the out": func(s *api.State) { s.Ports[1].Msgs = []string{"x"} },
	} {
		for _, frames := range []int{0, 1, 1000000} {
			outs, end, err := mirror.Onward(c, 0, edited(roomy(good), edit), nil, frames)
			wantBare(t, "P26.1: Onward of "+what, err, api.ErrState)
			if len(outs) > 0 || !same(end, api.State{}) {
				t.Errorf("P26.1: Onward of %s: beside an error %v, %v", what, outs, end)
			}
		}
	}
	inputs := []api.Input{{Frame: api.MaxFrames - 1, Data: "z"}, {Frame: api.MaxFrames, Data: "y"}}
	for left := range 4 {
		s := edited(good, func(s *api.State) { s.Frame = api.MaxFrames - left })
		for frames := range 6 {
			outs, end, err := mirror.Onward(c, 0, s, inputs, frames)
			if frames > left {
				wantBare(t, "P26.1: Onward beyond the end", err, api.ErrEnd)
				if len(outs) > 0 || !same(end, api.State{}) {
					t.Errorf("P26.1: Onward beyond the end: beside an error %v, %v", outs, end)
				}
				continue
			}
			wantBare(t, "P26.1: Onward up to the end", err, nil)
			if len(outs) != frames || end.Frame != s.Frame+frames {
				t.Errorf("P26.1: Onward up to the end: %d outs, frame %d", len(outs), end.Frame)
			}
			if frames == left && left > 0 {
				wantSame(t, "P26.1: the last frame", outs[frames-1], api.Out{Msgs: []api.Msg{{Port: 1, Data: "z"}}})
			}
		}
	}
}
