package epoch_test

import (
	"math/rand"
	"slices"
	"testing"

	"ferry/api"
	"ferry/epoch"
	"ferry/valid"
)

// marked: what a checkpoint makes of a state, by the chapter's words.
func marked(s api.State) api.State {
	s = valid.Copy(s)
	for i := range s.Pages {
		s.Pages[i].Dirty = false
	}
	s.Epoch++
	return s
}

// TestRandom: Mark, Dirty, Part, Since, Changed and Lay of any base and any state written since it; memory.
func TestRandom(t *testing.T) {
	r := rand.New(rand.NewSource(171))
	for range 4000 {
		p := roomy(rich(one(r, 1, 2, 5, 32)))
		s := roomy(someState(t, r, p))
		b := roomy(baseOf(t, r, p, s))
		lookPlan, lookS, lookB := kept(t, p), kept(t, s), kept(t, b)
		dirty, err := epoch.Dirty(p, s)
		wantBare(t, "P17.1: Dirty", err, nil)
		changed, err := epoch.Changed(p, b, s)
		wantBare(t, "P17.1: Changed", err, nil)
		var isDirty, isChanged []int
		for i := range s.Pages {
			if s.Pages[i].Dirty {
				isDirty = append(isDirty, i)
			}
			if string(s.Pages[i].Data[:]) != string(b.Pages[i].Data[:]) {
				isChanged = append(isChanged, i)
			}
		}
		wantInts(t, "P17.1: Dirty", dirty, isDirty...)
		wantInts(t, "P17.1: Changed", changed, isChanged...)
		if !since(t, p, b, s) || slices.ContainsFunc(changed, func(i int) bool { return !slices.Contains(dirty, i) }) {
			t.Errorf("P17.4: Changed = %v, Dirty = %v", changed, dirty)
		}
		x := part(t, p, s)
		wantInts(t, "P17.1: Part's numbers", x.index, isDirty...)
		laid, err := epoch.Lay(p, b, x.rest, x.index, x.pages)
		if s.Epoch == api.MaxEpoch {
			wantBare(t, "P17.2: Lay", err, api.ErrEnd)
			_, err = epoch.Mark(p, s)
			wantBare(t, "P17.1: Mark", err, api.ErrEnd)
		} else {
			m := mark(t, p, s)
			wantBare(t, "P17.2: Lay", err, nil)
			wantState(t, "P17.1: Mark", m, marked(s))
			wantState(t, "P17.3: Lay", laid, m)
			if !epoch.Alike(s, m) || !epoch.Alike(m, s) {
				t.Error("P17.1: Mark(s) isn't alike s")
			}
			again, _ := epoch.Lay(p, b, x.rest, x.index, x.pages)
			other := mark(t, p, s)
			y := part(t, p, s)
			wantApart(t, "Mark, Dirty, Part, Lay, Changed", p, s, b, dirty, changed, x.rest, x.index, x.pages, y.rest, y.index, y.pages, laid, again, m, other)
		}
		lookPlan("every call")
		lookS("every call")
		lookB("every call")
		if t.Failed() {
			t.Fatalf("plan %v\nbase %v\nstate %v", p, b, s)
		}
	}
}

// TestLayKeeps: Lay changes nothing of what it is handed, spare room included.
func TestLayKeeps(t *testing.T) {
	r := rand.New(rand.NewSource(172))
	for range 1000 {
		p := roomy(rich(1 + r.Intn(6)))
		s := someState(t, r, p)
		s.Epoch = min(s.Epoch, api.MaxEpoch-1)
		b := roomy(baseOf(t, r, p, s))
		x := part(t, p, s)
		rest, index, pages := roomy(x.rest), roomy(x.index), roomy(x.pages)
		looks := []func(string){kept(t, p), kept(t, b), kept(t, rest), kept(t, index), kept(t, pages)}
		laid, err := epoch.Lay(p, b, rest, index, pages)
		wantBare(t, "P17.2: Lay", err, nil)
		wantState(t, "P17.3: Lay", laid, marked(s))
		for _, look := range looks {
			look("Lay")
		}
		wantApart(t, "Lay", p, b, rest, index, pages, laid)
	}
}

// TestUnlikeBases: Since of any two states, against the chapter's words.
func TestUnlikeBases(t *testing.T) {
	r := rand.New(rand.NewSource(173))
	var seen [2]int
	for range 4000 {
		p := rich(1 + r.Intn(3))
		s := someState(t, r, p)
		b := baseOf(t, r, p, s)
		switch r.Intn(4) {
		case 0:
			b.Pages[r.Intn(len(b.Pages))].Dirty = true
		case 1:
			b.Epoch = one(r, 0, 1, 2147483646)
		case 2:
			b.Pages[r.Intn(len(b.Pages))].Data[7]++
		}
		wanted := b.Epoch == s.Epoch
		for i := range b.Pages {
			wanted = wanted && !b.Pages[i].Dirty && (s.Pages[i].Dirty || b.Pages[i].Data == s.Pages[i].Data)
		}
		if since(t, p, b, s) != wanted {
			t.Fatalf("P17.1: Since(%v, %v) isn't %v", b, s, wanted)
		}
		if wanted {
			seen[1]++
		} else {
			seen[0]++
		}
	}
	if seen[0] < 500 || seen[1] < 500 {
		t.Errorf("Since was false and true so often: %v", seen)
	}
}

// TestRow: a checkpoint, and then part upon part, come to the same as marking the state each time.
func TestRow(t *testing.T) {
	r := rand.New(rand.NewSource(174))
	for range 200 {
		p := rich(1 + r.Intn(8))
		s := someState(t, r, p)
		s.Epoch = r.Intn(3)
		runs := mark(t, p, s)
		follows := runs
		for range 10 {
			next := someState(t, r, p)
			next.Epoch = runs.Epoch
			for i := range next.Pages {
				if !next.Pages[i].Dirty {
					next.Pages[i].Data = runs.Pages[i].Data
				}
			}
			x := part(t, p, next)
			laid, err := epoch.Lay(p, follows, x.rest, x.index, x.pages)
			wantBare(t, "P17.3: Lay", err, nil)
			runs, follows = mark(t, p, next), laid
			wantState(t, "P17.3: a row of parts", follows, runs)
		}
	}
}

// TestAlike: every field counts but two, at each place, of any states.
func TestAlike(t *testing.T) {
	some := func() api.State {
		return api.State{
			Id: 1, Frame: 2, Epoch: 3, Procs: make([]api.Proc, 2), Ready: []int{0, 1}, Timers: []api.Timer{{Proc: 1, Due: 2}}, Up: []bool{true, false}, Sems: []int{4, 5},
			Ports: []api.Port{{Msgs: []string{"a", "b"}, Age: 3}, {}}, Pages: make([]api.Page, 2),
		}
	}
	for i, turn := range []func(s *api.State){
		func(s *api.State) { s.Epoch = -9 }, func(s *api.State) { s.Pages[1].Dirty = true }, func(s *api.State) { s.Ports[1].Msgs = []string{} },
	} {
		s := some()
		if turn(&s); !epoch.Alike(s, some()) || !epoch.Alike(some(), s) {
			t.Errorf("P17.1: Alike is false: turn %d", i)
		}
	}
	for i, turn := range []func(s *api.State){
		func(s *api.State) { s.Id++ }, func(s *api.State) { s.Frame++ }, func(s *api.State) { s.Procs[1].Regs[0] = 1 }, func(s *api.State) { s.Procs[1].Regs[15] = 1 }, func(s *api.State) { s.Procs[0].Pc = 4 },
		func(s *api.State) { s.Procs[0].State = 1 }, func(s *api.State) { s.Procs[0].Prio = 1 }, func(s *api.State) { s.Procs[0].Wait = 1 }, func(s *api.State) { s.Procs[0].Obj = 1 }, func(s *api.State) { s.Procs = s.Procs[:1] },
		func(s *api.State) { s.Ready = []int{1, 0} }, func(s *api.State) { s.Ready = nil }, func(s *api.State) { s.Timers[0].Due++ }, func(s *api.State) { s.Timers[0].Proc++ }, func(s *api.State) { s.Timers = nil }, func(s *api.State) { s.Up[1] = true },
		func(s *api.State) { s.Up = s.Up[:1] }, func(s *api.State) { s.Sems[1]++ }, func(s *api.State) { s.Sems = append(s.Sems, 0) }, func(s *api.State) { s.Ports[0].Age++ }, func(s *api.State) { s.Ports[0].Msgs[1] = "" },
		func(s *api.State) { s.Ports[1].Msgs = []string{""} }, func(s *api.State) { s.Ports = s.Ports[:1] }, func(s *api.State) { s.Pages[1].Rights = 1 }, func(s *api.State) { s.Pages[1].Data[63] = 1 }, func(s *api.State) { s.Pages = s.Pages[:1] },
	} {
		s := some()
		if turn(&s); epoch.Alike(s, some()) || epoch.Alike(some(), s) {
			t.Errorf("P17.1: Alike is true: turn %d", i)
		}
	}
	empty := api.State{Procs: []api.Proc{}, Ready: []int{}, Timers: []api.Timer{}, Up: []bool{}, Sems: []int{}, Ports: []api.Port{}, Pages: []api.Page{}}
	if !epoch.Alike(empty, api.State{}) || !epoch.Alike(api.State{}, empty) {
		t.Error("R4: nil and empty lists aren't alike")
	}
	if !epoch.Alike(exampleS(t), mark(t, three(), exampleS(t))) || epoch.Alike(exampleS(t), exampleB(t)) {
		t.Error("P17.1: the example 5")
	}
}
