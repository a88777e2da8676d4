package mirror_test

import (
	"math/rand"
	"slices"
	"testing"

	"ferry/api"
	"ferry/mirror"
	"ferry/valid"
)

func run(t *testing.T, c api.Config, self int, inputs []api.Input, frames int) ([]api.Out, api.State) {
	t.Helper()
	outs, s, err := mirror.Run(c, self, inputs, frames)
	wantBare(t, "P26.1: Run", err, nil)
	return outs, s
}

func onward(t *testing.T, c api.Config, self int, s api.State, inputs []api.Input, frames int) ([]api.Out, api.State) {
	t.Helper()
	outs, s, err := mirror.Onward(c, self, s, inputs, frames)
	wantBare(t, "P26.1: Onward", err, nil)
	return outs, s
}

func states(t *testing.T, c api.Config, self int, inputs []api.Input, frames int) []api.State {
	t.Helper()
	l, err := mirror.States(c, self, inputs, frames)
	wantBare(t, "P26.1: States", err, nil)
	return l
}

// TestAgainstModel: P26.1, P26.4: random partitions do what the second reading says.
func TestAgainstModel(t *testing.T) {
	t.Parallel()
	r := rand.New(rand.NewSource(261))
	seen := map[string]int{}
	for range 500 {
		c, self := someConfig(t, r)
		frames := one(r, 1, 2, 10, 30)
		inputs := someInputs(r, c, frames+2)
		m := played(t, c, self, boot(t, c.Parts[self]), inputs, frames)
		outs, s := run(t, c, self, inputs, frames)
		wantSame(t, "P26.1: what Run emits", outs, m.outs)
		wantSame(t, "P26.1: the state behind Run", s, m.last())
		all := states(t, c, self, inputs, frames)
		wantSame(t, "P26.1: States", all, m.states)
		for i, s := range all {
			if valid.Rest(c.Parts[self], s) != nil || s.Frame != i {
				t.Errorf("P26.4: state %d has the frame %d: %v", i, s.Frame, valid.Rest(c.Parts[self], s))
			}
		}
		for _, o := range outs {
			seen["messages"] += len(o.Msgs)
			seen["reports"] += len(o.Reports)
		}
		judge(t, r, c, self, inputs, m, seen)
		fits(t, r, c, self, inputs, m, seen)
		if t.Failed() {
			t.FailNow()
		}
	}
	wantEnough(t, seen, 100, "messages", "reports", "as alone", "parts", "parts by its frame", "it fits", "it doesn't fit")
}

// judge: what Judge answers is what the model says.
func judge(t *testing.T, r *rand.Rand, c api.Config, self int, inputs []api.Input, m model, seen map[string]int) {
	t.Helper()
	for range 5 {
		told := someTold(r, m, self)
		want := m.judged(self, told)
		n, err := mirror.Judge(c, self, inputs, told)
		wantBare(t, "P26.1: Judge", err, nil)
		if n != want {
			t.Errorf("P26.1: Judge = %d, want %d, of %+v", n, want, told)
		}
		switch {
		case want == len(told) && want > 0:
			seen["as alone"]++
		case want < len(told) && (told[want].Frame < 0 || told[want].Frame >= len(m.outs)):
			seen["parts by its frame"]++
		case want < len(told):
			seen["parts"]++
		}
	}
}

// fits: what Fits answers is what the model says.
func fits(t *testing.T, r *rand.Rand, c api.Config, self int, inputs []api.Input, m model, seen map[string]int) {
	t.Helper()
	for range 5 {
		s := m.states[r.Intn(len(m.states)-1)]
		for range r.Intn(3) {
			s = changedState(r, s)
		}
		want := s.Frame >= 0 && s.Frame < len(m.states) && alike(s, m.states[s.Frame])
		is, err := mirror.Fits(c, self, inputs, s)
		wantBare(t, "P26.1: Fits", err, nil)
		if is != want {
			t.Errorf("P26.1: Fits = %v, want %v, of %+v", is, want, s)
		}
		if want {
			seen["it fits"]++
		} else {
			seen["it doesn't fit"]++
		}
	}
}

// TestInTwo: P26.2: so many frames, and then more from that state on; from a marked one, too.
func TestInTwo(t *testing.T) {
	t.Parallel()
	r := rand.New(rand.NewSource(262))
	for range 300 {
		c, self := someConfig(t, r)
		n, m := r.Intn(12), r.Intn(12)
		inputs := someInputs(r, c, n+m+1)
		outs, s := run(t, c, self, inputs, n+m)
		first, mid := run(t, c, self, inputs, n)
		rest, end := onward(t, c, self, mid, inputs, m)
		wantSame(t, "P26.2: the outs", slices.Concat(first, rest), outs)
		wantSame(t, "P26.2: the state", end, s)
		wantSame(t, "P26.1: Onward", rest, played(t, c, self, mid, inputs, m).outs)
		marked := unmarked(mid)
		marked.Epoch = 5
		rest, end = onward(t, c, self, marked, inputs, m)
		wantSame(t, "P26.2: the outs from a marked state on", rest, outs[n:])
		if !alike(end, s) || end.Epoch != 5 {
			t.Errorf("P26.2: from a marked state on: %+v, want %+v", end, s)
		}
		if t.Failed() {
			t.FailNow()
		}
	}
}

// TestWhatMatters: P26.3: what comes later, what comes to others, and how others are, is nothing to it.
func TestWhatMatters(t *testing.T) {
	t.Parallel()
	r := rand.New(rand.NewSource(263))
	seen := map[string]int{}
	for range 400 {
		c, self := someConfig(t, r)
		frames := 1 + r.Intn(15)
		inputs := someInputs(r, c, frames)
		outs, s := run(t, c, self, inputs, frames)
		before := states(t, c, self, inputs, frames)

		x := someInput(r, self, frames+1)
		x.Port, x.Data = 1, "ab"
		more := slices.Insert(slices.Clone(inputs), r.Intn(len(inputs)+1), x)
		others, end := run(t, c, self, more, frames)
		wantSame(t, "P26.3: what is emitted ahead of an input", others[:x.Frame], outs[:x.Frame])
		wantSame(t, "P26.3: the states up to an input", states(t, c, self, more, frames)[:x.Frame+1], before[:x.Frame+1])
		if !same(others, outs) {
			seen["an input changed what is emitted"]++
		}
		if !same(end, s) {
			seen["an input changed the state"]++
		}

		x = someInput(r, one(r, self+1, self-1, -1, 8, 1<<63-1), frames)
		more = slices.Insert(slices.Clone(inputs), r.Intn(len(inputs)+1), x)
		others, end = run(t, c, self, more, frames)
		wantSame(t, "P26.3: an input for another partition", others, outs)
		wantSame(t, "P26.3: the state of an input for another partition", end, s)

		d := otherwise(t, r, c, self)
		others, end = run(t, d, self, inputs, frames)
		wantSame(t, "P26.3: other partitions", others, outs)
		wantSame(t, "P26.3: the state among other partitions", end, s)
		if len(d.Links) > 0 {
			seen["channels between others"]++
		}
		if t.Failed() {
			t.FailNow()
		}
	}
	wantEnough(t, seen, 20, "an input changed what is emitted", "an input changed the state", "channels between others")
}
