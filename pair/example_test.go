package pair_test

import (
	"slices"
	"strings"
	"testing"

	"ferry/api"
	"ferry/pair"
	"ferry/text"
)

func befell(kind, part, module int) api.Event {
	return api.Event{Kind: kind, Part: part, Module: module}
}

// TestExample1: P24.1: the chapter's example 1.
func TestExample1(t *testing.T) {
	p := newPair(t, exampleConfig())
	wantStep(t, p, "move 0", nil, 0)
	wantStep(t, p, "move 0", api.ErrBusy, 0)
	wantStep(t, p, "move 1", api.ErrKind, 0)
	wantStep(t, p, "move 2", api.ErrArg, 0)
	wantMoving(t, p, 0, 0, 1)
}

// sent: the examples 2 and 3, up to the HAVE of the full image.
func sent(t *testing.T) *pair.Pair {
	t.Helper()
	p := newPair(t, exampleConfig())
	play(t, p, "move 0")
	wantTold(t, wantStep(t, p, "frame", nil, 0, befell(api.EventBegun, 0, 0)), [3]int{0, 0, 0}, [3]int{1, 1, 0})
	wantMoving(t, p, 0, 0, 1)
	wantTold(t, wantStep(t, p, "frame", nil, 2), [3]int{0, 0, 1}, [3]int{1, 1, 1})
	wantMoving(t, p, 0, 0, 2)
	wantStep(t, p, "deliver 1", nil, 3)
	wantStep(t, p, "deliver 2", nil, 5)
	wantStep(t, p, "deliver 3", nil, 0)
	wantStep(t, p, "deliver 4", nil, 0)
	wantStep(t, p, "deliver 5", nil, 0)
	return p
}

// frozen: the example 4's first frame.
func frozen(t *testing.T) *pair.Pair {
	t.Helper()
	p := sent(t)
	wantTold(t, wantStep(t, p, "frame", nil, 6, befell(api.EventFrozen, 0, 0)), [3]int{1, 1, 2})
	wantMoving(t, p, 0, 0, 3)
	wantWhere(t, p, 0, 0, api.ErrNone)
	wantState(t, p, 0, 2, nil)
	return p
}

// released: the example 4, and the release.
func released(t *testing.T) *pair.Pair {
	t.Helper()
	p := frozen(t)
	wantTold(t, wantStep(t, p, "frame", nil, 9), [3]int{1, 1, 3})
	wantMoving(t, p, 0, 0, 4)
	wantState(t, p, 0, 2, nil)
	wantStep(t, p, "deliver 6", nil, 0)
	wantStep(t, p, "deliver 7", nil, 10)
	wantStep(t, p, "deliver 8", nil, 12)
	for _, line := range []string{"deliver 9", "deliver 10", "deliver 11", "deliver 12"} {
		wantStep(t, p, line, nil, 0)
	}
	a := wantStep(t, p, "frame", nil, 14, befell(api.EventReleased, 0, 0))
	wantTold(t, a, [3]int{1, 1, 4})
	wantMoving(t, p, 0, 0, 5)
	wantWhere(t, p, 0, 0, api.ErrNone)
	wantState(t, p, 0, 2, nil)
	return p
}

// TestExample5: P24.1, P24.4: a whole migration.
func TestExample5(t *testing.T) {
	p := released(t)
	wantStep(t, p, "deliver 13", nil, 0)
	a := wantStep(t, p, "frame", nil, 16, befell(api.EventStarted, 0, 1))
	wantTold(t, a, [3]int{1, 0, 2}, [3]int{1, 1, 5})
	wantWhere(t, p, 0, 1, nil)
	wantState(t, p, 0, 3, nil)
	wantMoving(t, p, 0, 0, 5)
	if to := p.Waiting(0); !slices.Equal(to, []int{14, 16}) {
		t.Errorf("P24.1: to module 0: %v", to)
	}
	wantStep(t, p, "deliver 16", nil, 0)
	wantStep(t, p, "frame", nil, 0, befell(api.EventOver, 0, 1))
	wantStill(t, p)
	// The COMMIT that was sent again comes late: it is answered by STARTED, which nobody waits for any more.
	wantStep(t, p, "deliver 15", nil, 17)
	wantStep(t, p, "deliver 17", nil, 0)
	// And back again: the first migration of module 1 has the number 3.
	wantStep(t, p, "move 0", nil, 0)
	wantMoving(t, p, 0, 1, 1)
}

// TestExample6: P24.1: a take-over from the full image's state.
func TestExample6(t *testing.T) {
	p := frozen(t)
	wantStep(t, p, "crash 0", nil, 0)
	wantStill(t, p)
	wantWhere(t, p, 0, 0, api.ErrNone)
	wantState(t, p, 0, 0, api.ErrNone)
	a := wantStep(t, p, "frame", nil, 0, befell(api.EventTaken, 0, 1))
	wantTold(t, a, [3]int{1, 0, 0}, [3]int{1, 1, 3})
	wantWhere(t, p, 0, 1, nil)
}

// TestExample7: P24.1: the source takes the partition back.
func TestExample7(t *testing.T) {
	p := released(t)
	wantStep(t, p, "crash 1", nil, 0)
	wantStep(t, p, "deliver 13", nil, 0)
	wantStep(t, p, "deliver 13", api.ErrNone, 0)
	wantState(t, p, 0, 2, nil)
	a := wantStep(t, p, "frame", nil, 0, befell(api.EventBack, 0, 0))
	wantTold(t, a, [3]int{0, 0, 2})
	wantStill(t, p)
	wantWhere(t, p, 0, 0, nil)
	wantWhere(t, p, 1, 0, api.ErrLost)
}

// TestExample8: P24.1, P24.6: a partition is lost.
func TestExample8(t *testing.T) {
	for _, ahead := range [][]string{nil, {"move 0"}, {"move 0", "frame"}, {"move 0", "frame", "frame", "deliver 1"}, {"move 0", "frame", "frame", "deliver 2"}} {
		p := newPair(t, exampleConfig())
		play(t, p, ahead...)
		wantStep(t, p, "crash 0", nil, 0)
		a := wantStep(t, p, "frame", nil, 0, befell(api.EventLost, 0, 0))
		if len(a.Outs) != 1 || a.Outs[0].Part != 1 {
			t.Errorf("P24.6: behind the loss %+v", a.Outs)
		}
		wantState(t, p, 0, 0, api.ErrLost)
		wantWhere(t, p, 0, 0, api.ErrLost)
		wantStep(t, p, "move 0", api.ErrLost, 0)
		wantStep(t, p, "crash 0", api.ErrDown, 0)
		wantStep(t, p, "up 0", nil, 0)
		wantBoot(t, p, 0, 2)
		wantStep(t, p, "up 0", api.ErrBusy, 0)
		wantStep(t, p, "frame", nil, 0)
		wantStep(t, p, "move 0", api.ErrLost, 0)
	}
}

// TestExample9: P24.1: letters that are turned and cut.
func TestExample9(t *testing.T) {
	letters := func() *pair.Pair {
		p := newPair(t, exampleConfig())
		wantStep(t, p, "flip 1 0 0", api.ErrNone, 0)
		play(t, p, "move 0", "frame", "frame")
		wantStep(t, p, "flip 1 0 0", api.ErrArg, 0)
		return p
	}
	p := letters()
	wantStep(t, p, "flip 1 0 1", nil, 0)
	wantStep(t, p, "deliver 1", api.ErrSum, 0)
	wantStep(t, p, "deliver 1", api.ErrNone, 0)
	p = letters()
	wantStep(t, p, "trim 1 200", nil, 0)
	wantStep(t, p, "deliver 1", api.ErrShort, 0)
	wantStep(t, p, "deliver 1", api.ErrNone, 0)
}

// counting is H of DOC.md's examples.
const counting = `config 50 8
part 0 mobile
page rx -
code addi r4 r4 7
code sb r4 r0 64
code addi r1 r0 0
code addi r2 r0 64
code addi r3 r0 1
code sys 13
code addi r1 r0 41
code sys 3
code beq r0 r0 -9
page rw -
proc 0 1 auto
port sampleout 1
window 0 0 20
window snap 20 30
`

// TestWhole: P24.1: the examples 1 to 5, 9 and 10 of the whole.
func TestWhole(t *testing.T) {
	carried := "move 0;frame;frame;deliver 1;deliver 2;deliver 3;deliver 4;deliver 5;deliver 6;deliver 7;frame;deliver 8;frame;deliver 11;deliver 9;deliver 10;deliver 12;deliver 13;deliver 14;frame;"
	there := "1 ok;2 ok;  m0 p0 f0 port 0 07;  p0 begun m0;3 ok letter 3;  m0 p0 f1 port 0 0e;4 ok letter 4;5 ok letter 5;6 ok letter 7;7 ok;8 ok;9 ok;10 ok;11 ok letter 8;  p0 frozen m0;12 ok;13 ok letter 11;14 ok;15 ok letter 12;16 ok letter 14;17 ok;18 ok;19 ok;20 ok letter 16;  p0 released m0;"
	for _, x := range []struct{ steps, told string }{
		{"frame;frame", "1 ok;  m0 p0 f0 port 0 07;2 ok;  m0 p0 f1 port 0 0e"},
		{"move 0;frame;frame", "1 ok;2 ok;  m0 p0 f0 port 0 07;  p0 begun m0;3 ok letter 3;  m0 p0 f1 port 0 0e"},
		{"move 0;frame;abort 0;frame;abort 0;frame", "1 ok;2 ok;  m0 p0 f0 port 0 07;  p0 begun m0;3 ok;4 ok letter 1;  m0 p0 f1 port 0 0e;  p0 aborted m0;5 none;6 ok;  m0 p0 f2 port 0 15"},
		{"move 1;move 0;move 0;crash 2;crash 1;crash 1;up 0;move 0;deliver 1;flip 1 0 1;op 99", "1 argument;2 ok;3 busy;4 argument;5 ok;6 down;7 busy;8 busy;9 none;10 none;11 kind"},
		{"crash 0;frame;up 0;frame;move 0", "1 ok;2 ok;  p0 lost m0;3 ok;4 ok;5 lost"},
		{carried + "deliver 16;deliver 15;frame;deliver 18;deliver 17;deliver 19;frame;frame", there + "21 ok;22 ok;23 ok letter 18;  m1 p0 f2 port 0 15;  p0 started m1;24 ok;25 ok letter 19;26 ok;27 ok;  m1 p0 f3 port 0 1c;  p0 over m1;28 ok;  m1 p0 f4 port 0 23"},
		{carried + "crash 1;deliver 16;deliver 15;frame;frame;frame", there + "21 ok;22 ok;23 ok;24 ok;  m0 p0 f2 port 0 15;  p0 back m0;25 ok;  m0 p0 f3 port 0 1c;26 ok;  m0 p0 f4 port 0 23"},
	} {
		s, err := text.Parse(counting + strings.ReplaceAll(x.steps, ";", "\n"))
		wantBare(t, "text.Parse", err, nil)
		answers, err := pair.Play(s)
		wantBare(t, "P24.1: Play", err, nil)
		told := ""
		for i, a := range answers {
			told += tell(i+1, a)
		}
		if wanted := strings.ReplaceAll(x.told, ";", "\n") + "\n"; told != wanted {
			t.Errorf("P24.1: %s:\n%s\nwant\n%s", x.steps, told, wanted)
		}
	}
}
