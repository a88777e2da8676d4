package mirror_test

import (
	"math/rand"
	"reflect"
	"testing"

	"ferry/api"
	"ferry/mirror"
)

// TestMemory: R2, R4: nothing that is handed in changes; what is answered is new memory, and the same for the same calls.
func TestMemory(t *testing.T) {
	t.Parallel()
	r := rand.New(rand.NewSource(264))
	for range 60 {
		c, self := someConfig(t, r)
		frames := r.Intn(8)
		c, inputs := roomy(c), roomy(someInputs(r, c, frames+1))
		_, mid := run(t, c, self, inputs, 3)
		mid = roomy(mid)
		m := played(t, c, self, boot(t, c.Parts[self]), inputs, 10)
		told := roomy(someTold(r, m, self))
		look := kept(t, c, inputs, mid, told)
		calls := func() []any {
			feed := mirror.Feed(inputs, self, 0, 9)
			outs, end := run(t, c, self, inputs, frames)
			more, last := onward(t, c, self, mid, inputs, frames)
			none, rest := onward(t, c, self, mid, inputs, 0)
			n, err := mirror.Judge(c, self, inputs, told)
			wantBare(t, "P26.1: Judge", err, nil)
			is, err := mirror.Fits(c, self, inputs, mid)
			wantBare(t, "P26.1: Fits", err, nil)
			return []any{feed, outs, end, more, last, none, rest, states(t, c, self, inputs, frames), n, is, mirror.SameOut(m.outs[0], m.outs[1])}
		}
		first, second := calls(), calls()
		look("a call")
		for i := range first {
			wantSame(t, "R4: the same call again", first[i], second[i])
		}
		wantApart(t, "answers", append(append([]any{c, inputs, mid, told}, first...), second...)...)
		for _, v := range first {
			spoil(reflect.ValueOf(v))
		}
		look("an answer that is written to")
		third := calls()
		for i := range third {
			wantSame(t, "R2: behind what was written to an answer", third[i], second[i])
		}
		if t.Failed() {
			t.FailNow()
		}
	}
}

// TestUntouchedWhenRefused: R2: what is refused isn't changed either.
func TestUntouchedWhenRefused(t *testing.T) {
	c := roomy(example(t))
	inputs := roomy([]api.Input{{Data: "a"}})
	s := edited(roomy(boot(t, c.Parts[0])), func(s *api.State) { s.Id = 4 })
	told := roomy([]api.PartOut{{Frame: -1}})
	look := kept(t, c, inputs, s, told)
	mirror.Run(c, 1, inputs, 1)
	mirror.States(c, 0, inputs, -1)
	mirror.Onward(c, 0, s, inputs, 1)
	mirror.Judge(c, 2, inputs, told)
	mirror.Judge(c, 0, inputs, told)
	mirror.Fits(c, -1, inputs, s)
	mirror.Fits(c, 0, inputs, s)
	look("a call that is refused")
}
