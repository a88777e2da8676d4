package module_test

import (
	"testing"

	"ferry/api"
)

// TestChannel: the example 5.
func TestChannel(t *testing.T) {
	m := newModule(t, pairOf(), 0)
	input := func(frame int, data string) api.Input { return api.Input{Part: 1, Frame: frame, Port: 0, Data: data} }
	wantOuts(t, "P15.1: the first frame", frame(t, m, input(0, "a")), told(0, 0, 0), quiet(0, 1, 0))
	wantHeld(t, "P15.1: in the same frame nothing comes", m, 1, 0, "a")
	wantOuts(t, "P15.1: the second frame", frame(t, m, input(1, "b"), input(1, "c")), told(0, 0, 1), quiet(0, 1, 1))
	wantHeld(t, "P15.1: ahead of the frame's inputs", m, 1, 0, "a", "\x01", "b", "c")
	frame(t, m)
	wantHeld(t, "P15.1: once alone", m, 1, 0, "a", "\x01", "b", "c", "\x02")
}

// TestChannelTaken: the example 6, and whoever else is taken or put meanwhile.
func TestChannelTaken(t *testing.T) {
	c := pairOf()
	for _, x := range []struct {
		name        string
		ahead       func(m *moved)
		between     func(m *moved)
		first, next []string
	}{
		{"nobody", nil, nil, []string{"\x01"}, []string{"\x01", "\x02"}},
		{"To, and put again", nil, func(m *moved) { m.take(1); m.put(1) }, nil, []string{"\x02"}},
		{"From", nil, func(m *moved) { m.take(0) }, []string{"\x01"}, []string{"\x01"}},
		{"From, and put again", nil, func(m *moved) { m.take(0); m.put(0) }, []string{"\x01"}, []string{"\x01", "\x02"}},
		{"both, and put again", nil, func(m *moved) { m.take(0); m.take(1); m.put(1); m.put(0) }, nil, []string{"\x02"}},
		{"To, which didn't run when it was emitted", func(m *moved) { m.take(1) }, func(m *moved) { m.put(1) }, nil, []string{"\x02"}},
		{"From, which emits nothing", func(m *moved) { m.take(0) }, func(m *moved) { m.put(0) }, nil, []string{"\x01"}},
	} {
		m := &moved{t: t, m: newModule(t, c, 0), held: map[int]api.State{}}
		if x.ahead != nil {
			x.ahead(m)
		}
		frame(t, m.m)
		if x.between != nil {
			x.between(m)
		}
		frame(t, m.m)
		wantHeld(t, "P15.1: taken "+x.name, m.m, 1, 0, x.first...)
		frame(t, m.m)
		wantHeld(t, "P15.1: taken "+x.name+", a frame later", m.m, 1, 0, x.next...)
	}
}

// TestChannelAway: one that is taken for a whole frame finds nothing that was under way ahead of it.
func TestChannelAway(t *testing.T) {
	m := newModule(t, pairOf(), 0)
	frame(t, m)
	s := take(t, m, 1)
	wantOuts(t, "P15.1: a message that no channel takes is told all the same", frame(t, m), told(0, 0, 1))
	put(t, m, 1, s)
	frame(t, m)
	wantHeld(t, "P15.1: put again", m, 1, 0)
	frame(t, m)
	wantHeld(t, "P15.1: and then", m, 1, 0, "\x03")
}

// TestChannels: several into one port, and out of one, in the order of Links and not of the partitions; of sampling ports too.
func TestChannels(t *testing.T) {
	sampleIn := api.PortPlan{Kind: api.SampleIn, Size: 4, Depth: 1, Refresh: 1}
	double := "addi r1 r0 0; addi r2 r0 64; addi r3 r0 1; sys 13; " + talker
	c := config(planOf(0, listener, queueIn(), sampleIn), planOf(1, talker, queueOut()), planOf(2, double, queueOut()), planOf(3, listener, queueIn()))
	c.Parts[1].Pages[1].Init, c.Parts[2].Pages[1].Init = "1", "2"
	c.Links = []api.Link{
		{From: 2, Out: 0, To: 0, In: 0}, {From: 1, Out: 0, To: 0, In: 0}, {From: 2, Out: 0, To: 0, In: 1},
		{From: 1, Out: 0, To: 3, In: 0}, {From: 1, Out: 0, To: 3, In: 0},
	}
	m := newModule(t, c, 0)
	frame(t, m)
	frame(t, m)
	wantHeld(t, "P15.1: two channels into a port", m, 0, 0, "2", "\x01", "\x01")
	wantHeld(t, "P15.1: a sampling port has the last", m, 0, 1, "\x01")
	wantHeld(t, "P15.1: a channel twice", m, 3, 0, "\x01", "\x01")
	take(t, m, 3)
	frame(t, m)
	wantHeld(t, "P15.1: another one is taken", m, 0, 0, "2", "\x01", "\x01", "\x02", "\x02")
}

// TestChannelRing: each partition's frame is of what came, whatever its number is: a message of a lower number comes no sooner than one of a higher.
func TestChannelRing(t *testing.T) {
	c := config(planOf(0, talker, queueOut(), queueIn()), planOf(1, talker, queueOut(), queueIn()))
	c.Links = []api.Link{{From: 1, Out: 0, To: 0, In: 1}, {From: 0, Out: 0, To: 1, In: 1}}
	m := newModule(t, c, 0)
	frame(t, m)
	for i := range 2 {
		wantHeld(t, "P15.1: the first frame", m, i, 1)
	}
	frame(t, m)
	for i := range 2 {
		wantHeld(t, "P15.1: the second frame", m, i, 1, "\x01")
	}
}
