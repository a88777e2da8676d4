package pair_test

import (
	"math"
	"slices"
	"testing"

	"ferry/api"
	"ferry/chunk"
	"ferry/frame"
	"ferry/pair"
)

// twoMobile: C with two mobile partitions, of homes 0 and 1, and a fixed one on each module.
func twoMobile() api.Config {
	c := exampleConfig()
	one := c.Parts[0]
	c.Parts = nil
	for i := range 4 {
		c.Parts = append(c.Parts, edited(one, func(p *api.Plan) { p.Id, p.Mobile = i, i < 2 }))
	}
	c.Homes = []int{0, 1, 0, 1}
	c.Windows = []api.Window{{Part: 0, Start: 0, Len: 10}, {Part: 1, Start: 10, Len: 10}, {Part: 2, Start: 20, Len: 10}, {Part: 3, Start: 30, Len: 10}, {Part: api.Snap, Start: 80, Len: 20}}
	return c
}

// TestKinds: P24.1: a step of no kind.
func TestKinds(t *testing.T) {
	p := newPair(t, exampleConfig())
	for _, kind := range []int{math.MinInt, -1, 0, 11, 12, 256 + 1, 1 << 32, math.MaxInt} {
		if a := p.Step(api.Op{Kind: kind, A: 0}); !same(a, api.Answer{Code: 7}) {
			t.Errorf("P24.1: kind %d: %+v", kind, a)
		}
	}
}

// TestUnused: P24.1: what a kind doesn't use has no meaning.
func TestUnused(t *testing.T) {
	lines := []string{"move 0", "frame", "frame", "copy 1", "drop 1", "deliver 3", "trim 2 1", "deliver 2", "abort 0", "frame", "crash 1", "frame", "up 1", "frame"}
	p, q := newPair(t, exampleConfig()), newPair(t, exampleConfig())
	for _, line := range lines {
		o := op(t, line)
		filled := o
		switch o.Kind {
		case api.OpFrame:
			filled = api.Op{Kind: o.Kind, A: 5, B: -1, C: 9}
		case api.OpTrim:
			filled.C = 77
		default:
			filled.B, filled.C = -3, math.MaxInt
		}
		wantSame(t, "P24.1: "+line, p.Step(o), q.Step(filled))
	}
}

// TestMoveErrors: P24.1: what OpMove refuses, the first of its errors that applies.
func TestMoveErrors(t *testing.T) {
	p := newPair(t, twoMobile())
	for _, n := range []int{math.MinInt, -1, 4, 8, math.MaxInt} {
		if a := p.Step(api.Op{Kind: api.OpMove, A: n}); !same(a, api.Answer{Code: 12}) {
			t.Errorf("P24.1: move %d: %+v", n, a)
		}
	}
	play(t, p, "move 0", "crash 1")
	if a := p.Step(api.Op{Kind: api.OpMove, A: 4}); a.Code != 12 {
		t.Errorf("P24.1: ErrArg goes ahead: %+v", a)
	}
	wantStep(t, p, "move 3", api.ErrKind, 0) // it is lost, too
	wantStep(t, p, "move 2", api.ErrKind, 0)
	wantStep(t, p, "move 1", api.ErrBusy, 0) // its module is down, too
	wantStep(t, p, "frame", nil, 0+1, befell(api.EventAborted, 0, 0), befell(api.EventLost, 1, 1))
	wantStep(t, p, "move 1", api.ErrLost, 0)
	wantStep(t, p, "move 0", api.ErrDown, 0)
	play(t, p, "up 1", "move 0")
	wantStep(t, p, "move 1", api.ErrLost, 0)
	wantStep(t, p, "move 0", api.ErrBusy, 0)

	p = newPair(t, twoMobile())
	play(t, p, "crash 0")
	wantStep(t, p, "move 0", api.ErrDown, 0)
	wantStep(t, p, "move 1", api.ErrDown, 0)
	play(t, p, "up 0")
	wantStep(t, p, "move 0", api.ErrNone, 0)
	wantWhere(t, p, 0, 0, api.ErrNone)
	wantState(t, p, 0, 0, api.ErrNone)
	play(t, p, "move 1")
	wantMoving(t, p, 1, 1, 1)
	wantStep(t, p, "move 0", api.ErrBusy, 0)
	wantStep(t, p, "frame", nil, 0, befell(api.EventBegun, 1, 1), befell(api.EventLost, 0, 0))
	wantStep(t, p, "move 0", api.ErrLost, 0)
}

// TestAbortErrors: P24.1.
func TestAbortErrors(t *testing.T) {
	p := newPair(t, twoMobile())
	wantStep(t, p, "abort 0", api.ErrNone, 0)
	wantStep(t, p, "abort 2", api.ErrNone, 0)
	play(t, p, "move 1")
	for _, n := range []int{math.MinInt, -1, 4, math.MaxInt} {
		if a := p.Step(api.Op{Kind: api.OpAbort, A: n}); !same(a, api.Answer{Code: 12}) {
			t.Errorf("P24.1: abort %d: %+v", n, a)
		}
	}
	wantStep(t, p, "abort 0", api.ErrNone, 0)
	wantStep(t, p, "abort 2", api.ErrNone, 0)
	wantStep(t, p, "abort 1", nil, 0)
	wantStep(t, p, "abort 1", nil, 0)
	wantStep(t, p, "frame", nil, 1, befell(api.EventAborted, 1, 1))
	wantStep(t, p, "abort 1", api.ErrNone, 0)

	p = released(t)
	wantStep(t, p, "abort 0", api.ErrBusy, 0)
	wantStep(t, p, "abort 1", api.ErrNone, 0)
	wantStep(t, p, "abort 2", api.ErrArg, 0)
	p = frozen(t)
	wantStep(t, p, "abort 0", nil, 0)
	wantTold(t, wantStep(t, p, "frame", nil, 8, befell(api.EventAborted, 0, 0)), [3]int{0, 0, 2}, [3]int{1, 1, 3})
}

// TestModules: P24.1: modules go down and come up.
func TestModules(t *testing.T) {
	p := newPair(t, twoMobile())
	for _, n := range []int{math.MinInt, -1, 2, math.MaxInt} {
		for _, kind := range []int{api.OpCrash, api.OpUp} {
			if a := p.Step(api.Op{Kind: kind, A: n}); !same(a, api.Answer{Code: 12}) {
				t.Errorf("P24.1: kind %d of %d: %+v", kind, n, a)
			}
		}
		boot, err := p.Boot(n)
		wantBare(t, "P24.1: Boot", err, api.ErrArg)
		if boot != 0 {
			t.Errorf("P24.1: Boot(%d) = %d", n, boot)
		}
	}
	wantStep(t, p, "up 0", api.ErrBusy, 0)
	wantStep(t, p, "up 1", api.ErrBusy, 0)
	wantBoot(t, p, 0, 1)
	wantBoot(t, p, 1, 1)
	play(t, p, "crash 1")
	wantBoot(t, p, 0, 1)
	wantBoot(t, p, 1, 0)
	wantStep(t, p, "crash 1", api.ErrDown, 0)
	wantWhere(t, p, 1, 0, api.ErrNone) // mobile: whether it is lost is told at the boundary
	wantWhere(t, p, 3, 0, api.ErrLost) // fixed: at once
	wantState(t, p, 3, 0, api.ErrLost)
	wantTold(t, wantStep(t, p, "frame", nil, 0, befell(api.EventLost, 1, 1)), [3]int{0, 0, 0}, [3]int{0, 2, 0})
	play(t, p, "up 1")
	wantBoot(t, p, 1, 2)
	wantWhere(t, p, 3, 0, api.ErrLost)
	wantTold(t, wantStep(t, p, "frame", nil, 0), [3]int{0, 0, 1}, [3]int{0, 2, 1})
	play(t, p, "crash 1", "up 1", "crash 1", "up 1")
	wantBoot(t, p, 1, 4)
	wantBoot(t, p, 0, 1)
	play(t, p, "crash 0", "crash 1")
	wantTold(t, wantStep(t, p, "frame", nil, 0, befell(api.EventLost, 0, 0)))
	wantTold(t, wantStep(t, p, "frame", nil, 0))
	wantBoot(t, p, 0, 0)
	wantBoot(t, p, 1, 0)
	play(t, p, "up 0", "up 1", "frame")
	for part := range 4 {
		wantWhere(t, p, part, 0, api.ErrLost)
	}
	wantBoot(t, p, 0, 2)
	wantBoot(t, p, 1, 5)
}

// TestLosses: P24.6: several are lost at one boundary: told by their numbers, each once.
func TestLosses(t *testing.T) {
	c := twoMobile()
	c.Homes[0] = 1
	p := newPair(t, c)
	play(t, p, "crash 1")
	wantStep(t, p, "frame", nil, 0, befell(api.EventLost, 0, 1), befell(api.EventLost, 1, 1))
	wantStep(t, p, "frame", nil, 0)
}

// TestGiverDown: P24.1: the migration is gone with the module that gives away, its image and its job too.
func TestGiverDown(t *testing.T) {
	for _, ahead := range [][]string{{"move 1"}, {"move 1", "frame"}, {"move 1", "frame", "frame"}} {
		p := newPair(t, twoMobile())
		play(t, p, ahead...)
		play(t, p, "crash 0")
		wantMoving(t, p, 1, 1, []int{1, 1, 2}[len(ahead)-1])
		wantStep(t, p, "crash 1", nil, 0)
		wantStill(t, p)
		play(t, p, "up 0", "up 1")
		wantStill(t, p)
		wantStep(t, p, "frame", nil, 0, befell(api.EventLost, 0, 0), befell(api.EventLost, 1, 1))
	}
}

// TestNumbers: P24.1: the n-th migration of module m has the number 2 n + m, over all its boots; its boots are those of the asking.
func TestNumbers(t *testing.T) {
	p := newPair(t, twoMobile())
	wanted := func(letter int, from int, x api.Xid) {
		t.Helper()
		a, _, err := p.Letter(letter)
		wantBare(t, "P24.1: Letter", err, nil)
		n, err := chunk.Get(a.Bytes)
		wantBare(t, "chunk.Get", err, nil)
		if n.Kind != api.MsgCancel || n.Part != from || n.Xid != x || a.From != from || a.To != 1-from {
			t.Errorf("P24.1: letter %d from %d to %d is %+v, want %+v of module %d", letter, a.From, a.To, n, x, from)
		}
	}
	play(t, p, "move 0", "abort 0", "frame")
	wanted(1, 0, api.Xid{Boot: 1, Peer: 1, Num: 2})
	play(t, p, "move 0", "abort 0", "frame", "move 1", "abort 1", "frame")
	wanted(2, 0, api.Xid{Boot: 1, Peer: 1, Num: 4})
	wanted(3, 1, api.Xid{Boot: 1, Peer: 1, Num: 3})
	play(t, p, "crash 1", "up 1", "move 0", "abort 0", "frame")
	wanted(4, 0, api.Xid{Boot: 1, Peer: 2, Num: 6})
	// Refused ones aren't counted.
	wantStep(t, p, "move 1", api.ErrLost, 0)
	play(t, p, "move 0")
	wantStep(t, p, "move 0", api.ErrBusy, 0)
	play(t, p, "abort 0", "frame")
	wanted(5, 0, api.Xid{Boot: 1, Peer: 2, Num: 8})
}

// TestDeliver: P24.1: what comes of a letter.
func TestDeliver(t *testing.T) {
	p := sent(t)
	for _, n := range []int{math.MinInt, -1, 0, 1, 5, 6, math.MaxInt} {
		if a := p.Step(api.Op{Kind: api.OpDeliver, A: n}); !same(a, api.Answer{Code: 17}) {
			t.Errorf("P24.1: deliver %d: %+v", n, a)
		}
	}
	// To a module that is down: nothing is read, so nothing is wrong with it.
	p = newPair(t, exampleConfig())
	play(t, p, "move 0", "frame", "frame", "flip 1 5 3", "crash 1")
	wantStep(t, p, "deliver 1", nil, 0)
	wantStep(t, p, "deliver 1", api.ErrNone, 0)
	play(t, p, "up 1")
	// It is up, and knows of no boot yet: spent.
	wantStep(t, p, "deliver 2", nil, 0)
	wantStep(t, p, "deliver 2", api.ErrNone, 0)
	// A letter of an older boot is spent behind the boundary, too.
	p = newPair(t, exampleConfig())
	play(t, p, "move 0", "frame", "frame", "crash 1", "up 1")
	wantStep(t, p, "frame", nil, 3, befell(api.EventAborted, 0, 0))
	for _, line := range []string{"deliver 1", "deliver 2", "deliver 3"} {
		wantStep(t, p, line, nil, 0)
	}
}

// TestWayBack: P24.1, P24.4: there, and back again: module 1 gives away, module 0 is the spare.
func TestWayBack(t *testing.T) {
	p := newPair(t, exampleConfig())
	for trip := range 4 {
		from := trip % 2
		wantStep(t, p, "move 0", nil, 0)
		wantMoving(t, p, 0, from, 1)
		var events []api.Event
		for range 7 {
			a := p.Step(api.Op{Kind: api.OpFrame})
			events = append(events, a.Events...)
			deliverAll(t, p, nil)
		}
		wanted := []api.Event{befell(api.EventBegun, 0, from), befell(api.EventFrozen, 0, from), befell(api.EventReleased, 0, from), befell(api.EventStarted, 0, 1-from), befell(api.EventOver, 0, 1-from)}
		if !slices.Equal(events, wanted) {
			t.Fatalf("P24.1: trip %d: %v, want %v", trip, events, wanted)
		}
		wantStill(t, p)
		wantWhere(t, p, 0, 1-from, nil)
		wantState(t, p, 0, 4*trip+4, nil)
	}
}

// TestLetters: P24.1: copies, drops, cuts, flips.
func TestLetters(t *testing.T) {
	p := newPair(t, exampleConfig())
	for _, line := range []string{"copy 1", "drop 1", "trim 1 1", "trim 1 0", "flip 1 0 1", "flip 1 0 0", "flip 1 0 -1", "flip 1 0 4294967296", "copy 0", "drop -1"} {
		wantStep(t, p, line, api.ErrNone, 0)
	}
	play(t, p, "move 0", "frame", "frame")
	first, spoilt, err := p.Letter(1)
	wantBare(t, "P24.1: Letter", err, nil)
	if first.From != 0 || first.To != 1 || spoilt {
		t.Errorf("P24.1: Letter(1) = %+v, %v", first, spoilt)
	}
	bits := 8 * len(first.Bytes)
	for _, o := range []api.Op{
		{Kind: api.OpTrim, A: 1, B: 0}, {Kind: api.OpTrim, A: 1, B: -1}, {Kind: api.OpTrim, A: 1, B: math.MinInt},
		{Kind: api.OpFlip, A: 1, B: 0, C: 0}, {Kind: api.OpFlip, A: 1, B: 0, C: -1}, {Kind: api.OpFlip, A: 1, B: 0, C: 1 << 32}, {Kind: api.OpFlip, A: 1, B: 0, C: 1<<32 + 1}, {Kind: api.OpFlip, A: 1, B: 0, C: math.MinInt}, {Kind: api.OpFlip, A: 1, B: 0, C: math.MaxInt},
		{Kind: api.OpFlip, A: 1, B: -1, C: 1}, {Kind: api.OpFlip, A: 1, B: bits, C: 1}, {Kind: api.OpFlip, A: 1, B: bits - 31, C: 1<<32 - 1}, {Kind: api.OpFlip, A: 1, B: math.MaxInt, C: 1},
	} {
		if a := p.Step(o); !same(a, api.Answer{Code: 12}) {
			t.Errorf("P24.1: %+v: %+v", o, a)
		}
	}
	wantStep(t, p, "copy 1", nil, 3)
	if a := p.Step(api.Op{Kind: api.OpFlip, A: 1, B: bits - 32, C: 1<<32 - 1}); a.Code != 0 || a.Msg != 0 {
		t.Errorf("P24.1: a flip of the last 32 bits: %+v", a)
	}
	now, spoilt, err := p.Letter(1)
	wantBare(t, "P24.1: Letter", err, nil)
	end := len(first.Bytes) - 4
	for i := range first.Bytes {
		if turned := now.Bytes[i] == ^first.Bytes[i]; turned != (i >= end) {
			t.Fatalf("P24.1: byte %d of %d: %x, was %x", i, len(first.Bytes), now.Bytes[i], first.Bytes[i])
		}
	}
	if !spoilt {
		t.Error("P24.1: it isn't spoilt")
	}
	wantStep(t, p, "flip 1 0 1", api.ErrArg, 0)
	wantStep(t, p, "copy 1", nil, 4)
	wantStep(t, p, "trim 4 1", api.ErrArg, 0)
	wantStep(t, p, "trim 3 2", nil, 0)
	now, _, _ = p.Letter(3)
	if now.Bytes != first.Bytes[:len(first.Bytes)-2] {
		t.Error("P24.1: another letter than the first one, cut")
	}
	wantStep(t, p, "drop 2", nil, 0)
	wantStep(t, p, "drop 2", api.ErrNone, 0)
	if l := p.Waiting(1); !slices.Equal(l, []int{1, 3, 4}) {
		t.Errorf("P24.1: Waiting(1) = %v", l)
	}
	for _, to := range []int{math.MinInt, -1, 0, 2, math.MaxInt} {
		if l := p.Waiting(to); len(l) != 0 {
			t.Errorf("P24.1: Waiting(%d) = %v", to, l)
		}
	}
	for _, n := range []int{math.MinInt, -1, 0, 2, 5, math.MaxInt} {
		a, spoilt, err := p.Letter(n)
		wantBare(t, "P24.1: Letter", err, api.ErrNone)
		if a != (api.Letter{}) || spoilt {
			t.Errorf("P24.1: Letter(%d): %+v, %v beside an error", n, a, spoilt)
		}
	}
}

// TestAsked: P24.1: Where and State of numbers that are none, and at the beginning.
func TestAsked(t *testing.T) {
	p := newPair(t, twoMobile())
	for _, n := range []int{math.MinInt, -1, 4, 5, math.MaxInt} {
		wantWhere(t, p, n, 0, api.ErrArg)
		wantState(t, p, n, 0, api.ErrArg)
	}
	for part, home := range []int{0, 1, 0, 1} {
		wantWhere(t, p, part, home, nil)
		wantState(t, p, part, 0, nil)
	}
	wantStill(t, p)
	play(t, p, "frame", "frame")
	for part := range 4 {
		wantState(t, p, part, 2, nil)
	}
}

// TestNewErrors: P24.1: the errors of New and of Play are frame.Check's, with their places.
func TestNewErrors(t *testing.T) {
	for _, edit := range []func(c *api.Config){
		func(c *api.Config) { c.Ticks = 0 },
		func(c *api.Config) { c.Tries = 65 },
		func(c *api.Config) { c.Parts = nil },
		func(c *api.Config) { c.Parts[1].Id = 5 },
		func(c *api.Config) { c.Parts[1].Procs = nil },
		func(c *api.Config) { c.Homes = c.Homes[:1] },
		func(c *api.Config) { c.Homes[1] = 2 },
		func(c *api.Config) { c.Windows[1].Start = 39 },
		func(c *api.Config) { c.Windows[2].Len = 21 },
		func(c *api.Config) { c.Windows = c.Windows[1:] },
		func(c *api.Config) { c.Windows = c.Windows[:2] },
		func(c *api.Config) { c.Links = []api.Link{{From: 0, Out: 0, To: 1, In: 0}} },
	} {
		c := edited(exampleConfig(), edit)
		wanted := frame.Check(c)
		if wanted == nil {
			t.Fatal("a configuration that is in form")
		}
		p, err := pair.New(c, nil)
		want(t, "P24.1: New", err, wanted, api.Place(wanted))
		l, err := pair.Play(api.Script{Config: c, Ops: []api.Op{{Kind: api.OpFrame}}})
		want(t, "P24.1: Play", err, wanted, api.Place(wanted))
		if p != nil || len(l) != 0 {
			t.Error("P24.1: something beside an error")
		}
	}
}

// TestPlay: P24.1: as many answers as steps, each as Step has it.
func TestPlay(t *testing.T) {
	for n := range 4 {
		s := api.Script{Config: exampleConfig(), Ops: slices.Repeat([]api.Op{{Kind: api.OpFrame}}, n)}
		l, err := pair.Play(s)
		wantBare(t, "P24.1: Play", err, nil)
		if len(l) != n {
			t.Fatalf("P24.1: %d answers to %d steps", len(l), n)
		}
		for i, a := range l {
			wantTold(t, a, [3]int{0, 0, i}, [3]int{1, 1, i})
		}
	}
}
