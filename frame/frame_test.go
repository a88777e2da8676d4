package frame_test

import (
	"math"
	"slices"
	"testing"

	"ferry/api"
	"ferry/frame"
)

func TestBoots(t *testing.T) {
	c := example()
	look := kept(t, c)
	for _, x := range []struct {
		homes  []int
		module int
		want   []int
		err    error
	}{
		{[]int{0, 0}, 0, []int{0, 1}, nil}, {[]int{0, 0}, 1, nil, nil}, {[]int{1, 0}, 0, []int{1}, nil}, {[]int{1, 0}, 1, []int{0}, nil},
		{[]int{0, 0}, 2, nil, api.ErrArg}, {[]int{0, 0}, -1, nil, api.ErrArg}, {[]int{0, 0}, math.MaxInt, nil, api.ErrArg},
	} {
		c := example()
		c.Homes = x.homes
		got, err := frame.Boots(c, x.module)
		wantBare(t, "P14.2: Boots", err, x.err)
		if !slices.Equal(got, x.want) {
			t.Errorf("P14.2: Boots of Homes %v and %d = %v, want %v", x.homes, x.module, got, x.want)
		}
		wantApart(t, "Boots", c, got)
	}
	look("Boots")
}

// TestOwners: Windows and Load of each owner, and Joined.
func TestOwners(t *testing.T) {
	c := example()
	look := kept(t, c)
	for _, x := range []struct {
		part int
		want []api.Window
		load int
		err  error
	}{
		{0, []api.Window{{Part: 0, Start: 0, Len: 40}, {Part: 0, Start: 80, Len: 20}}, 60, nil},
		{1, []api.Window{{Part: 1, Start: 60, Len: 20}}, 20, nil},
		{api.Snap, []api.Window{{Part: -1, Start: 50, Len: 10}}, 10, nil},
		{2, nil, 0, api.ErrArg}, {-2, nil, 0, api.ErrArg}, {math.MinInt, nil, 0, api.ErrArg},
	} {
		got, err := frame.Windows(c, x.part)
		wantBare(t, "P14.2: Windows", err, x.err)
		load, err := frame.Load(c, x.part)
		wantBare(t, "P14.2: Load", err, x.err)
		if !slices.Equal(got, x.want) || load != x.load {
			t.Errorf("P14.2: Windows(%d) = %v, Load = %d", x.part, got, load)
		}
		wantApart(t, "Windows", c, got)
	}
	idle, err := frame.Idle(c)
	wantBare(t, "P14.2: Idle", err, nil)
	if idle != 10 {
		t.Errorf("P14.2: Idle = %d, want 10", idle)
	}
	look("Windows, Load, Idle")
	c.Windows = slices.Delete(c.Windows, 1, 2)
	got, err := frame.Windows(c, api.Snap)
	wantBare(t, "P14.2: Windows of Snap, which has none", err, nil)
	load, err := frame.Load(c, api.Snap)
	wantBare(t, "P14.2: Load of Snap, which has none", err, nil)
	if len(got) != 0 || load != 0 {
		t.Errorf("P14.2: Windows = %v, Load = %d of Snap, which has none", got, load)
	}
}

func TestAt(t *testing.T) {
	c := example()
	for _, x := range []struct {
		tick, want int
		err        error
	}{
		{0, 0, nil}, {39, 0, nil}, {40, 0, api.ErrNone}, {49, 0, api.ErrNone}, {50, api.Snap, nil}, {59, api.Snap, nil},
		{60, 1, nil}, {79, 1, nil}, {80, 0, nil}, {99, 0, nil},
		{100, 0, api.ErrArg}, {-1, 0, api.ErrArg}, {math.MaxInt, 0, api.ErrArg}, {math.MinInt, 0, api.ErrArg},
	} {
		got, err := frame.At(c, x.tick)
		wantBare(t, "P14.2: At", err, x.err)
		if got != x.want {
			t.Errorf("P14.2: At(%d) = %d, want %d", x.tick, got, x.want)
		}
	}
}

func TestNext(t *testing.T) {
	c := example()
	for _, x := range []struct {
		part, tick, want int
		err              error
	}{
		{0, 40, 80, nil}, {0, 0, 0, nil}, {0, 39, 39, nil}, {0, 79, 80, nil}, {0, 99, 99, nil}, {1, 0, 60, nil}, {1, 79, 79, nil},
		{api.Snap, 0, 50, nil}, {api.Snap, 59, 59, nil}, {1, 80, 0, api.ErrNone}, {api.Snap, 60, 0, api.ErrNone},
		{-2, 0, 0, api.ErrArg}, {2, 0, 0, api.ErrArg}, {0, 100, 0, api.ErrArg}, {0, -1, 0, api.ErrArg},
		{1, 100, 0, api.ErrArg}, {math.MaxInt, math.MaxInt, 0, api.ErrArg},
	} {
		got, err := frame.Next(c, x.part, x.tick)
		wantBare(t, "P14.2: Next", err, x.err)
		if got != x.want {
			t.Errorf("P14.2: Next(%d, %d) = %d, want %d", x.part, x.tick, got, x.want)
		}
	}
	c.Windows[3] = api.Window{Part: 0, Start: 80, Len: 10}
	_, err := frame.Next(c, 0, 90)
	wantBare(t, "P14.2: Next behind the last window", err, api.ErrNone)
}

func TestJoined(t *testing.T) {
	c := example()
	many(&c, 4)
	c.Parts[1].Ports = []api.PortPlan{{Kind: api.SampleOut, Size: 1, Depth: 1}}
	c.Parts[3].Ports = []api.PortPlan{{Kind: api.SampleIn, Size: 1, Depth: 1}}
	c.Links = []api.Link{{From: 1, To: 3}}
	for part, is := range []bool{false, true, false, true} {
		got, err := frame.Joined(c, part)
		wantBare(t, "P14.2: Joined", err, nil)
		if got != is {
			t.Errorf("P14.2: Joined(%d) = %v", part, got)
		}
	}
	for _, part := range []int{api.Snap, 4, math.MaxInt, math.MinInt} {
		got, err := frame.Joined(c, part)
		wantBare(t, "P14.2: Joined of no partition", err, api.ErrArg)
		if got {
			t.Errorf("F1: Joined(%d) beside an error", part)
		}
	}
}

func wantBrought(t *testing.T, what string, got [][]api.Msg, want ...[]api.Msg) {
	t.Helper()
	if !slices.EqualFunc(got, want, func(a, b []api.Msg) bool { return slices.Equal(a, b) }) {
		t.Errorf("P14.3: %s: %v, want %v", what, got, want)
	}
}

// TestCarry: the example 4, and links that have an end in common.
func TestCarry(t *testing.T) {
	c := example()
	both := []bool{true, true}
	ab := []api.Msg{{Port: 0, Data: "a"}, {Port: 0, Data: "b"}}
	got, err := frame.Carry(c, both, [][]api.Msg{ab, {}})
	wantBare(t, "P14.3: Carry", err, nil)
	wantBrought(t, "example 4", got, nil, ab)
	for _, here := range [][]bool{{true, false}, {false, true}, {false, false}} {
		got, err = frame.Carry(c, here, [][]api.Msg{ab, {}})
		wantBare(t, "P14.3: Carry", err, nil)
		wantBrought(t, "where one isn't here", got, nil, nil)
	}
	for _, here := range [][]bool{{true}, nil, {true, true, true}} {
		got, err = frame.Carry(c, here, [][]api.Msg{ab, {}})
		wantBare(t, "P14.3: Carry", err, api.ErrArg)
		wantBrought(t, "beside an error", got)
	}
	for _, emitted := range [][][]api.Msg{{ab}, nil, {ab, ab, ab}} {
		got, err = frame.Carry(c, both, emitted)
		wantBare(t, "P14.3: Carry", err, api.ErrArg)
		wantBrought(t, "beside an error", got)
	}
	far := tooLong()
	got, err = frame.Carry(c, both, [][]api.Msg{{{Port: 1, Data: "x"}, {Port: 0, Data: far}, {Port: -1, Data: "y"}, {Port: math.MaxInt, Data: "z"}, {}}, ab})
	wantBare(t, "P14.3: Carry", err, nil)
	wantBrought(t, "of other ports too", got, nil, []api.Msg{{Port: 0, Data: far}, {}})
	c.Links = append(c.Links, c.Links[0])
	got, err = frame.Carry(c, both, [][]api.Msg{ab, nil})
	wantBare(t, "P14.3: Carry", err, nil)
	wantBrought(t, "by two links that are the same", got, nil, slices.Concat(ab, ab))
}

// tooLong: more bytes than any port takes.
func tooLong() string { return string(slices.Repeat([]byte("\x00\xff"), 100)) }

// TestCarryOrder: to one partition by the order of Links, and of one link by the order of what was emitted; the ports are the links'.
func TestCarryOrder(t *testing.T) {
	var c api.Config
	many(&c, 3)
	for i := range c.Parts {
		c.Parts[i].Ports = []api.PortPlan{
			{Kind: api.QueueOut, Size: 1, Depth: 8}, {Kind: api.QueueIn, Size: 1, Depth: 8},
			{Kind: api.SampleOut, Size: 1, Depth: 1}, {Kind: api.SampleIn, Size: 1, Depth: 1},
		}
	}
	c.Links = []api.Link{{From: 2, Out: 2, To: 0, In: 3}, {From: 1, Out: 0, To: 0, In: 1}, {From: 2, Out: 0, To: 0, In: 1}, {From: 1, Out: 0, To: 2, In: 3}, {From: 0, Out: 2, To: 1, In: 1}}
	emitted := [][]api.Msg{
		{{Port: 0, Data: "a"}, {Port: 2, Data: "b"}},
		{{Port: 0, Data: "c"}, {Port: 2, Data: "d"}, {Port: 0, Data: "e"}},
		{{Port: 2, Data: "f"}, {Port: 0, Data: "g"}, {Port: 2, Data: "h"}},
	}
	look := kept(t, c, emitted)
	got, err := frame.Carry(c, []bool{true, true, true}, emitted)
	wantBare(t, "P14.3: Carry", err, nil)
	wantBrought(t, "by several links", got,
		[]api.Msg{{Port: 3, Data: "f"}, {Port: 3, Data: "h"}, {Port: 1, Data: "c"}, {Port: 1, Data: "e"}, {Port: 1, Data: "g"}},
		[]api.Msg{{Port: 1, Data: "b"}},
		[]api.Msg{{Port: 3, Data: "c"}, {Port: 3, Data: "e"}})
	look("Carry")
	wantApart(t, "Carry", c, emitted, got)
}
