package module_test

import (
	"math"
	"slices"
	"testing"

	"ferry/api"
	"ferry/module"
	"ferry/part"
	"ferry/valid"
)

// exampleC: the configuration C of the chapter.
func exampleC() api.Config {
	return api.Config{
		Ticks: 100, Tries: 1, Homes: []int{0, 1},
		Parts:   []api.Plan{planOf(0, talker, queueOut(), queueIn()), planOf(1, listener, queueIn())},
		Windows: []api.Window{{Part: 0, Start: 0, Len: 50}, {Part: 1, Start: 50, Len: 50}},
	}
}

// TestNew: the example 1, the errors' order and places, and the boot states.
func TestNew(t *testing.T) {
	c := exampleC()
	for which := range 2 {
		m := newModule(t, c, which)
		wantRunning(t, "New", m, which)
		wantState(t, "P15.1: New", m, which, boot(t, c.Parts[which]))
		_, err := m.State(1 - which)
		wantBare(t, "P15.1: State of one that doesn't run here", err, api.ErrNone)
	}
	for _, which := range []int{2, -1, math.MaxInt, math.MinInt} {
		m, err := module.New(c, which)
		if wantBare(t, "P15.1: New", err, api.ErrArg); m != nil {
			t.Errorf("P15.1: New(C, %d) is a module beside an error", which)
		}
	}
	for _, x := range []struct {
		turn  func(c *api.Config)
		err   error
		place int
	}{
		{func(c *api.Config) { c.Ticks = 0 }, api.ErrRange, -1}, {func(c *api.Config) { c.Parts[1].Id = 0 }, api.ErrArg, 1},
		{func(c *api.Config) { c.Homes[1] = 2 }, api.ErrRange, 1}, {func(c *api.Config) { c.Windows[1].Start = 49 }, api.ErrBusy, 1},
		{func(c *api.Config) { c.Links = make([]api.Link, 1) }, api.ErrArg, 0}, {func(c *api.Config) { c.Parts[0].Mobile = true }, api.ErrNone, -1},
		{func(c *api.Config) { c.Parts[0].Pages[1].Rights = 9 }, api.ErrPlan, 0},
	} {
		for _, which := range []int{0, 2} {
			c := exampleC()
			x.turn(&c)
			m, err := module.New(c, which)
			if m != nil || api.Code(err) != api.Code(x.err) || api.Place(err) != x.place {
				t.Errorf("P15.1: New = %v, %v at %d, want %v at %d", m, err, api.Place(err), x.err, x.place)
			}
		}
	}
	c.Homes = []int{1, 1}
	wantRunning(t, "a module that boots nothing", newModule(t, c, 0))
}

// TestCalls: which errors the calls on one partition have, in which order.
func TestCalls(t *testing.T) {
	c := exampleC()
	m := newModule(t, c, 0)
	other := boot(t, c.Parts[1])
	for _, x := range []struct {
		part       int
		state, put error
	}{
		{0, nil, api.ErrBusy}, {1, api.ErrNone, nil}, {2, api.ErrArg, api.ErrArg}, {-1, api.ErrArg, api.ErrArg},
		{math.MaxInt, api.ErrArg, api.ErrArg}, {math.MinInt, api.ErrArg, api.ErrArg},
	} {
		s, err := m.State(x.part)
		wantBare(t, "P15.1: State", err, x.state)
		if err != nil && !valid.Same(s, api.State{}) {
			t.Errorf("F1: State(%d) is %v beside an error", x.part, s)
		}
		if x.state != nil {
			s, err := m.Take(x.part)
			wantBare(t, "P15.1: Take", err, x.state)
			if !valid.Same(s, api.State{}) {
				t.Errorf("F1: Take(%d) is %v beside an error", x.part, s)
			}
		}
		// A state that is at rest for nobody is looked at last.
		if x.put != nil {
			wantBare(t, "P15.1: Put", m.Put(x.part, api.State{}), x.put)
			wantBare(t, "P15.1: Put", m.Put(x.part, other), x.put)
		}
	}
	wantBare(t, "P15.1: Put of another Id", m.Put(1, boot(t, c.Parts[0])), api.ErrState)
	wantBare(t, "P15.1: Put of nothing", m.Put(1, api.State{}), api.ErrState)
	wantRunning(t, "behind what was refused", m, 0)
	put(t, m, 1, other)
	wantRunning(t, "Put", m, 0, 1)
	wantState(t, "P15.1: Put", m, 1, other)
}

// TestPutAtRest: a state in form whose port out holds something isn't at rest; nor is one that isn't in form.
func TestPutAtRest(t *testing.T) {
	c := exampleC()
	m := newModule(t, c, 0)
	s := take(t, m, 0)
	s.Ports[0].Msgs = []string{"x"}
	wantBare(t, "it is in form", valid.Check(c.Parts[0], s), nil)
	wantBare(t, "P15.1: Put of a state not at rest", m.Put(0, s), api.ErrState)
	s.Ports[0].Msgs, s.Ports[1].Msgs = nil, []string{"x"}
	put(t, m, 0, s)
	s = take(t, m, 0)
	s.Procs[0].Regs[0] = 1
	wantBare(t, "P15.1: Put of a state not in form", m.Put(0, s), api.ErrState)
	wantRunning(t, "Put", m)
}

// told: what a talker emits in that frame.
func told(which, number, frame int) api.PartOut {
	return api.PartOut{Module: which, Part: number, Frame: frame, Out: api.Out{Msgs: []api.Msg{{Port: 0, Data: string([]byte{byte(frame + 1)})}}}}
}

// quiet: a partition that emits nothing.
func quiet(which, number, frame int) api.PartOut {
	return api.PartOut{Module: which, Part: number, Frame: frame}
}

// TestFrames: the examples 2 to 4.
func TestFrames(t *testing.T) {
	c := exampleC()
	inputs := []api.Input{{Part: 0, Frame: 1, Port: 1, Data: "a"}, {Part: 1, Frame: 1, Port: 0, Data: "b"}, {Part: 0, Frame: 0, Port: 1, Data: "c"}, {Part: 0, Frame: 1, Port: 1, Data: ""}, {Part: -1, Frame: 1, Port: 1, Data: "d"}, {Part: 2, Frame: 1, Port: 1, Data: "e"}, {Part: 0, Frame: -1, Port: 1, Data: "f"}}
	m, n := newModule(t, c, 0), newModule(t, c, 1)
	wantOuts(t, "P15.1: the first frame", frame(t, m), told(0, 0, 0))
	wantHeld(t, "P15.1: nothing came", m, 0, 1)
	wantOuts(t, "P15.1: the second frame", frame(t, m, inputs...), told(0, 0, 1))
	wantHeld(t, "P15.1: the inputs of frame 1", m, 0, 1, "a", "")
	wantOuts(t, "P15.1: the third frame", frame(t, m, inputs...), told(0, 0, 2))
	wantHeld(t, "P15.1: the inputs of later frames", m, 0, 1, "a", "")
	wantOuts(t, "P15.1: the other module", frame(t, n, inputs...), quiet(1, 1, 0))
	wantHeld(t, "P15.1: the other module", n, 1, 0)
	frame(t, n, inputs...)
	wantHeld(t, "P15.1: the other module's second frame", n, 1, 0, "b")
	s := take(t, m, 0)
	if s.Frame != 3 {
		t.Errorf("P15.1: Take answers the state of frame %d", s.Frame)
	}
	wantRunning(t, "Take", m)
	_, err := m.Take(0)
	wantBare(t, "P15.1: Take of what was taken", err, api.ErrNone)
	wantOuts(t, "P15.1: a frame of nobody", frame(t, m, inputs...))
	put(t, m, 0, s)
	wantRunning(t, "Put", m, 0)
	wantBare(t, "P15.1: Put again", m.Put(0, s), api.ErrBusy)
	wantBare(t, "P15.1: Put of another's", m.Put(1, s), api.ErrState)
	wantOuts(t, "P15.1: it goes on", frame(t, m), told(0, 0, 3))
}

// TestDropped: what a port refuses is reported, in the order in which it comes: an input for no port, one that is too long, one behind a full queue.
func TestDropped(t *testing.T) {
	c := pairOf()
	c.Parts[1].Ports[0] = api.PortPlan{Kind: api.QueueIn, Size: 1, Depth: 1}
	m := newModule(t, c, 0)
	frame(t, m)
	out := frame(t, m, api.Input{Part: 1, Frame: 1, Port: -7, Data: "x"}, api.Input{Part: 1, Frame: 1, Port: 0, Data: "y"})
	wantHeld(t, "P15.1: the channel's ahead of the input", m, 1, 0, "\x01")
	drop := func(code uint32) api.Report { return api.Report{Kind: api.ReportDrop, Proc: -1, Code: code} }
	if want := []api.Report{drop(1<<32 - 7), drop(0)}; !slices.Equal(out[1].Out.Reports, want) {
		t.Errorf("P15.1: the reports are %v, want %v", out[1].Out.Reports, want)
	}
}

// TestEnd: one partition at its last frame stops the frame of all; nothing is done, and what is under way stays so.
func TestEnd(t *testing.T) {
	c := config(planOf(0, talker, queueOut()), planOf(1, listener, queueIn()), planOf(2, listener))
	c.Links = []api.Link{{From: 0, Out: 0, To: 1, In: 0}}
	m := newModule(t, c, 0)
	s := take(t, m, 2)
	frame(t, m)
	s.Frame = api.MaxFrames - 1
	put(t, m, 2, s)
	wantOuts(t, "P15.1: the last frame", frame(t, m), told(0, 0, 1), quiet(0, 1, 1), quiet(0, 2, api.MaxFrames-1))
	first, err := m.State(0)
	wantBare(t, "P15.1: State", err, nil)
	for range 2 {
		outs, err := m.Frame(nil)
		wantBare(t, "P15.1: Frame at the end", err, api.ErrEnd)
		wantOuts(t, "F1: beside an error", outs)
		wantState(t, "R3: Frame at the end", m, 0, first)
		wantHeld(t, "R3: Frame at the end", m, 1, 0, "\x01")
	}
	take(t, m, 2)
	wantOuts(t, "P15.1: the frame behind that", frame(t, m), told(0, 0, 2), quiet(0, 1, 2))
	wantHeld(t, "R3: what was under way", m, 1, 0, "\x01", "\x02")
}

// TestClear: nothing runs, and nothing is under way.
func TestClear(t *testing.T) {
	c := pairOf()
	m := newModule(t, c, 0)
	frame(t, m)
	a, err := m.State(0)
	wantBare(t, "P15.1: State", err, nil)
	b, err := m.State(1)
	wantBare(t, "P15.1: State", err, nil)
	m.Clear()
	wantRunning(t, "Clear", m)
	_, err = m.State(0)
	wantBare(t, "P15.1: State behind Clear", err, api.ErrNone)
	wantOuts(t, "P15.1: Frame behind Clear", frame(t, m))
	put(t, m, 0, a)
	put(t, m, 1, b)
	wantOuts(t, "P15.1: they go on", frame(t, m), told(0, 0, 1), quiet(0, 1, 1))
	wantHeld(t, "P15.1: nothing was under way behind Clear", m, 1, 0)
	m.Clear()
	put(t, m, 1, b)
	put(t, m, 0, a)
	frame(t, m)
	wantHeld(t, "P15.1: nor at once behind it", m, 1, 0)
	m.Clear()
	m.Clear()
	wantRunning(t, "Clear twice", m)
}

// TestMoves: P15.3, taken and put again here or on another module, ahead of each frame.
func TestMoves(t *testing.T) {
	c := exampleC()
	still := newModule(t, c, 0)
	modules := []*module.Module{newModule(t, c, 0), newModule(t, c, 1), newModule(t, c, 0)}
	take(t, modules[2], 0)
	s, at := boot(t, c.Parts[0]), 0
	for f, to := range []int{0, 1, 1, 0, 2, 1, 0, 0} {
		put(t, modules[to], 0, take(t, modules[at], 0))
		at = to
		input := api.Input{Part: 0, Frame: f, Port: 1, Data: string([]byte{byte(f)})}
		next, out, err := part.Frame(c.Parts[0], s, 100, c.Windows[:1], []api.Msg{{Port: 1, Data: input.Data}})
		wantBare(t, "part.Frame", err, nil)
		s = next
		wantOuts(t, "P15.2: the undisturbed one", frame(t, still, input), api.PartOut{Module: 0, Part: 0, Frame: f, Out: out})
		wantState(t, "P15.2: the undisturbed one", still, 0, s)
		which := modules[to].Which()
		if outs := frame(t, modules[to], input); !sameOut(outs[0], api.PartOut{Module: which, Part: 0, Frame: f, Out: out}) {
			t.Errorf("P15.3: frame %d tells %v, want %v", f, outs[0], out)
		}
		wantState(t, "P15.3: it goes on", modules[to], 0, s)
	}
}
