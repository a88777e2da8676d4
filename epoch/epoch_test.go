package epoch_test

import (
	"math"
	"slices"
	"testing"

	"ferry/api"
	"ferry/epoch"
	"ferry/valid"
)

// TestExamples: the chapter's examples 1 to 3.
func TestExamples(t *testing.T) {
	p, s, b := three(), exampleS(t), exampleB(t)
	marked := state(t, 5, 9, [3]byte{1, 2, 3})
	wantState(t, "P17.1: Mark", mark(t, p, s), marked)
	dirty, err := epoch.Dirty(p, s)
	wantBare(t, "P17.1: Dirty", err, nil)
	wantInts(t, "P17.1: Dirty", dirty, 1, 2)
	got := part(t, p, s)
	rest := exampleS(t)
	rest.Pages = nil
	wantState(t, "P17.1: Part's rest", got.rest, rest)
	wantInts(t, "P17.1: Part's numbers", got.index, 1, 2)
	if !slices.Equal(got.pages, marked.Pages[1:]) {
		t.Errorf("P17.1: Part's pages: %v", got.pages)
	}
	if !since(t, p, b, s) {
		t.Error("P17.1: Since(b, s) is false")
	}
	changed, err := epoch.Changed(p, b, s)
	wantBare(t, "P17.1: Changed", err, nil)
	wantInts(t, "P17.1: Changed", changed, 1)
	laid, err := epoch.Lay(p, b, got.rest, got.index, got.pages)
	wantBare(t, "P17.2: Lay", err, nil)
	wantState(t, "P17.3: Lay", laid, marked)
	for what, base := range map[string]api.State{
		"a page that isn't dirty differs": state(t, 4, 0, [3]byte{9, 0, 3}), "an epoch less": state(t, 3, 7, [3]byte{1, 0, 3}), "an epoch more": state(t, 5, 7, [3]byte{1, 0, 3}),
		"a base with a dirty page": state(t, 4, 7, [3]byte{1, 0, 3}, 0), "a base with a dirty page that is dirty over it too": state(t, 4, 7, [3]byte{1, 0, 3}, 2), "the state itself": s,
	} {
		if since(t, p, base, s) {
			t.Errorf("P17.1: Since is true: %s", what)
		}
	}
}

// TestSinceEdges: only what isn't dirty has to be the base's, to the last byte; the rest of a state doesn't count.
func TestSinceEdges(t *testing.T) {
	p := three()
	clean := state(t, 0, 3, [3]byte{1, 2, 3})
	if !since(t, p, clean, clean) {
		t.Error("P17.1: a base isn't written since itself")
	}
	for i := range 3 {
		for k := range 64 {
			over := valid.Copy(clean)
			over.Pages[i].Data[k] ^= 0x80
			if since(t, p, clean, over) {
				t.Errorf("P17.1: Since with byte %d of page %d turned", k, i)
			}
			changed, err := epoch.Changed(p, clean, over)
			wantBare(t, "P17.1: Changed", err, nil)
			wantInts(t, "P17.1: Changed", changed, i)
			over.Pages[i].Dirty = true
			if !since(t, p, clean, over) {
				t.Errorf("P17.1: Since with byte %d of the dirty page %d turned", k, i)
			}
		}
	}
	other := state(t, 0, 0, [3]byte{1, 2, 3})
	other.Procs[0].Regs[3], other.Procs[0].State, other.Ready = 9, api.Failed, nil
	if !since(t, p, clean, other) || !since(t, p, other, clean) {
		t.Error("P17.1: Since looks at more than pages and epochs")
	}
	last := state(t, api.MaxEpoch, 0, [3]byte{})
	if !since(t, p, last, last) || since(t, p, clean, last) {
		t.Error("P17.1: Since at the last epoch")
	}
}

// TestMarkEdges: the first and the last epoch.
func TestMarkEdges(t *testing.T) {
	p := three()
	for _, number := range []int{0, 1, api.MaxEpoch - 1} {
		for _, dirty := range [][]int{nil, {0}, {0, 1, 2}} {
			got := mark(t, p, state(t, number, 2, [3]byte{7, 8, 9}, dirty...))
			wantState(t, "P17.1: Mark", got, state(t, number+1, 2, [3]byte{7, 8, 9}))
		}
	}
	got, err := epoch.Mark(p, state(t, api.MaxEpoch, 0, [3]byte{}))
	wantBare(t, "P17.1: Mark at the last epoch", err, api.ErrEnd)
	wantState(t, "F1: Mark", got, api.State{})
	s := state(t, api.MaxEpoch, api.MaxFrames, [3]byte{5, 6, 7}, 0)
	wantInts(t, "P17.1: Part at the last epoch", part(t, p, s).index, 0)
}

// TestErrors: what isn't in form or at rest is refused by every call, without a place.
func TestErrors(t *testing.T) {
	good := exampleB(t)
	for _, p := range wrongPlans() {
		wantRefused(t, "a wrong plan", p, good, good, api.ErrPlan)
		wantRefused(t, "a wrong plan and state", p, api.State{}, api.State{}, api.ErrPlan)
	}
	for _, turn := range broken() {
		bad := exampleS(t)
		turn(&bad)
		wantRefused(t, "a state that isn't at rest", three(), bad, good, api.ErrState)
		wantRefused(t, "two states that aren't at rest", three(), bad, bad, api.ErrState)
		wantPairRefused(t, "a second state that isn't at rest", three(), good, bad, api.ErrState)
	}
	atEnd := state(t, api.MaxEpoch, -1, [3]byte{})
	wantRefused(t, "one that isn't at rest at the last epoch", three(), atEnd, good, api.ErrState)
}

// wantRefused asks every call but Lay.
func wantRefused(t *testing.T, what string, p api.Plan, s, other api.State, want error) {
	t.Helper()
	marked, err := epoch.Mark(p, s)
	wantBare(t, "P17.1: Mark of "+what, err, want)
	dirty, err := epoch.Dirty(p, s)
	wantBare(t, "P17.1: Dirty of "+what, err, want)
	rest, index, pages, err := epoch.Part(p, s)
	wantBare(t, "P17.1: Part of "+what, err, want)
	if !valid.Same(marked, api.State{}) || len(dirty) > 0 || !valid.Same(rest, api.State{}) || len(index) > 0 || len(pages) > 0 {
		t.Errorf("F1: %s: something beside an error", what)
	}
	wantPairRefused(t, what, p, s, other, want)
}

func wantPairRefused(t *testing.T, what string, p api.Plan, a, b api.State, want error) {
	t.Helper()
	is, err := epoch.Since(p, a, b)
	wantBare(t, "P17.1: Since of "+what, err, want)
	changed, err := epoch.Changed(p, a, b)
	wantBare(t, "P17.1: Changed of "+what, err, want)
	if is || len(changed) > 0 {
		t.Errorf("F1: %s: %v, %v beside an error", what, is, changed)
	}
}

// laying is what Lay is handed.
type laying struct {
	p          api.Plan
	base, rest api.State
	index      []int
	pages      []api.Page
}

func (l laying) lay() (api.State, error) { return epoch.Lay(l.p, l.base, l.rest, l.index, l.pages) }

// goodLaying: that of the example 2.
func goodLaying(t *testing.T) laying {
	t.Helper()
	x := part(t, three(), exampleS(t))
	return laying{three(), exampleB(t), x.rest, x.index, x.pages}
}

// faults: one turn for each of Lay's errors in their order, which leave all others as they are.
func faults() []struct {
	err  error
	turn func(l *laying)
} {
	return []struct {
		err  error
		turn func(l *laying)
	}{
		{api.ErrPlan, func(l *laying) { l.p.Events = -1 }},
		{api.ErrState, func(l *laying) { l.base.Ready = nil }},
		{api.ErrBase, func(l *laying) { l.base.Pages[1].Dirty = true }},
		{api.ErrEnd, func(l *laying) { l.base.Epoch, l.rest.Epoch = api.MaxEpoch, api.MaxEpoch }},
		{api.ErrArg, func(l *laying) { l.index[0] = 2 }},
		{api.ErrState, func(l *laying) { l.rest.Ready = nil }},
	}
}

// TestLayOrder: of all pairs of errors the first one is answered.
func TestLayOrder(t *testing.T) {
	for i, first := range faults() {
		for _, second := range faults()[i:] {
			l := goodLaying(t)
			second.turn(&l)
			first.turn(&l)
			got, err := l.lay()
			wantBare(t, "P17.2: Lay", err, first.err)
			wantState(t, "F1: Lay", got, api.State{})
		}
	}
}

// TestLayBase: what is no base, of any epoch.
func TestLayBase(t *testing.T) {
	for i := range 3 {
		l := goodLaying(t)
		l.base.Pages[i].Dirty = true
		_, err := l.lay()
		wantBare(t, "P17.2: Lay over a dirty page", err, api.ErrBase)
	}
	for _, number := range []int{0, 3, 5, api.MaxEpoch} {
		l := goodLaying(t)
		l.base.Epoch = number
		_, err := l.lay()
		wantBare(t, "P17.2: Lay over another epoch", err, api.ErrBase)
	}
	for _, number := range []int{3, 5, -1, api.MaxEpoch, api.MaxEpoch + 1, math.MaxInt, math.MinInt} {
		l := goodLaying(t)
		l.rest.Epoch = number
		_, err := l.lay()
		wantBare(t, "P17.2: Lay of another epoch", err, api.ErrBase)
	}
	for _, turn := range broken() {
		l := goodLaying(t)
		turn(&l.base)
		_, err := l.lay()
		wantBare(t, "P17.2: Lay over a state that isn't at rest", err, api.ErrState)
	}
	l := goodLaying(t)
	l.base.Epoch, l.rest.Epoch = api.MaxEpoch-1, api.MaxEpoch-1
	got, err := l.lay()
	wantBare(t, "P17.2: Lay at the last epoch but one", err, nil)
	wantState(t, "P17.2: Lay at the last epoch but one", got, state(t, api.MaxEpoch, 9, [3]byte{1, 2, 3}))
}

// TestLayArguments: the example 4, and each other wrong list.
func TestLayArguments(t *testing.T) {
	page := func(rights int) api.Page { return api.Page{Rights: rights} }
	dirty := api.Page{Rights: 1, Dirty: true}
	for _, x := range []struct {
		what  string
		index []int
		pages []api.Page
		err   error
	}{
		{"numbers that fall", []int{2, 1}, []api.Page{page(7), page(1)}, api.ErrArg}, {"a number twice", []int{1, 1}, []api.Page{page(1), page(1)}, api.ErrArg}, {"no page of that number", []int{3}, []api.Page{page(3)}, api.ErrArg},
		{"a number below", []int{-1}, []api.Page{page(3)}, api.ErrArg}, {"the greatest number", []int{math.MaxInt}, []api.Page{page(3)}, api.ErrArg}, {"the least number", []int{math.MinInt, 0}, []api.Page{page(3), page(3)}, api.ErrArg},
		{"a page too many", []int{1}, []api.Page{page(1), page(7)}, api.ErrArg}, {"a page too few", []int{1, 2}, []api.Page{page(1)}, api.ErrArg}, {"no page", []int{1}, nil, api.ErrArg}, {"no number", nil, []api.Page{page(1)}, api.ErrArg},
		{"a dirty page", []int{1}, []api.Page{dirty}, api.ErrArg}, {"a dirty page behind another", []int{0, 1}, []api.Page{page(3), dirty}, api.ErrArg}, {"another page's rights", []int{1}, []api.Page{page(3)}, api.ErrArg}, {"other rights of the last one", []int{0, 1, 2}, []api.Page{page(3), page(1), page(6)}, api.ErrArg},
		{"all pages", []int{0, 1, 2}, []api.Page{page(3), page(1), page(7)}, nil}, {"the last one", []int{2}, []api.Page{page(7)}, nil}, {"none", nil, nil, nil}, {"empty lists", []int{}, []api.Page{}, nil},
	} {
		l := goodLaying(t)
		l.index, l.pages = x.index, x.pages
		got, err := l.lay()
		wantBare(t, "P17.2: Lay: "+x.what, err, x.err)
		wanted := api.State{}
		if x.err == nil {
			wanted = state(t, 5, 9, [3]byte{1, 0, 3})
			for i, n := range x.index {
				wanted.Pages[n] = x.pages[i]
			}
		}
		wantState(t, "P17.2: Lay: "+x.what, got, wanted)
	}
	l := goodLaying(t)
	l.rest = exampleS(t)
	_, err := l.lay()
	wantBare(t, "P17.2: Lay of a rest with pages", err, api.ErrArg)
	l = goodLaying(t)
	l.rest.Pages = make([]api.Page, 1)
	_, err = l.lay()
	wantBare(t, "P17.2: Lay of a rest with a page", err, api.ErrArg)
	l.rest.Pages = []api.Page{}
	_, err = l.lay()
	wantBare(t, "P17.2: Lay of a rest with an empty list", err, nil)
}

// TestLayRest: what comes out is looked at whole.
func TestLayRest(t *testing.T) {
	for _, turn := range []func(s *api.State){
		func(s *api.State) { s.Id = 7 }, func(s *api.State) { s.Frame = -1 }, func(s *api.State) { s.Frame = api.MaxFrames + 1 }, func(s *api.State) { s.Procs = nil }, func(s *api.State) { s.Ready = []int{0, 0} },
		func(s *api.State) { s.Procs[0].Regs[0] = 1 }, func(s *api.State) { s.Timers = []api.Timer{{}} }, func(s *api.State) { s.Up = []bool{true} }, func(s *api.State) { s.Ports = make([]api.Port, 1) },
	} {
		l := goodLaying(t)
		turn(&l.rest)
		got, err := l.lay()
		wantBare(t, "P17.2: Lay", err, api.ErrState)
		wantState(t, "F1: Lay", got, api.State{})
	}
	// A port out that holds something is in form, but not at rest.
	l := goodLaying(t)
	l.p.Ports, l.base.Ports, l.rest.Ports = []api.PortPlan{{Kind: api.SampleOut, Size: 1, Depth: 1}}, make([]api.Port, 1), []api.Port{{Msgs: []string{"x"}}}
	_, err := l.lay()
	wantBare(t, "P17.2: Lay of what is in form only", err, api.ErrState)
	l.rest.Ports[0].Msgs = nil
	_, err = l.lay()
	wantBare(t, "P17.2: Lay", err, nil)
}
