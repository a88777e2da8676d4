package valid_test

import (
	"math/rand"
	"slices"
	"testing"

	"ferry/api"
	"ferry/valid"
)

// full: a state that has something in every list.
func full() api.State {
	return roomy(api.State{
		Id: 9, Frame: 3, Epoch: 2,
		Procs:  []api.Proc{{Pc: 4, State: api.Ready}, {State: api.Waiting, Wait: api.WaitSleep}},
		Ready:  []int{0, 7},
		Timers: []api.Timer{{Proc: 1, Due: 5}, {Proc: 0, Due: 9}},
		Up:     []bool{false, true}, Sems: []int{0, 5},
		Ports: []api.Port{{Msgs: []string{"ab", ""}, Age: 3}, {}},
		Pages: []api.Page{{Rights: 5, Data: [64]byte{1, 2}}, {Rights: 3, Dirty: true}},
	})
}

// unlikes: each field put otherwise by itself.
func unlikes() []func(s *api.State) {
	return []func(s *api.State){
		func(s *api.State) { s.Id++ },
		func(s *api.State) { s.Frame++ },
		func(s *api.State) { s.Procs[1].Regs[0] = 1 },
		func(s *api.State) { s.Procs[1].Regs[15] = 1 },
		func(s *api.State) { s.Procs[0].Pc++ },
		func(s *api.State) { s.Procs[0].State++ },
		func(s *api.State) { s.Procs[0].Prio++ },
		func(s *api.State) { s.Procs[0].Wait++ },
		func(s *api.State) { s.Procs[0].Obj++ },
		func(s *api.State) { s.Procs = s.Procs[:1] },
		func(s *api.State) { s.Ready[1]++ },
		func(s *api.State) { s.Ready = []int{7, 0} },
		func(s *api.State) { s.Ready = nil },
		func(s *api.State) { s.Timers[0].Proc++ },
		func(s *api.State) { s.Timers[1].Due++ },
		func(s *api.State) { s.Timers = append(s.Timers, api.Timer{}) },
		func(s *api.State) { s.Up[0] = true },
		func(s *api.State) { s.Up = append(s.Up, false) },
		func(s *api.State) { s.Sems[1] = -5 },
		func(s *api.State) { s.Sems = s.Sems[:1] },
		func(s *api.State) { s.Ports[0].Age++ },
		func(s *api.State) { s.Ports[0].Msgs[0] = "aB" },
		func(s *api.State) { s.Ports[0].Msgs[1] = "\x00" },
		func(s *api.State) { s.Ports[0].Msgs = s.Ports[0].Msgs[:1] },
		func(s *api.State) { s.Ports[1].Msgs = []string{""} },
		func(s *api.State) { s.Ports = append(s.Ports, api.Port{}) },
		func(s *api.State) { s.Pages[0].Rights++ },
		func(s *api.State) { s.Pages[0].Data[63] = 1 },
		func(s *api.State) { s.Pages = s.Pages[:1] },
	}
}

// unseen: what Alike doesn't look at.
func unseen() []func(s *api.State) {
	return []func(s *api.State){
		func(s *api.State) { s.Epoch++ },
		func(s *api.State) { s.Epoch = -1 },
		func(s *api.State) { s.Pages[0].Dirty = true },
		func(s *api.State) { s.Pages[1].Dirty = false },
	}
}

// wantSame looks at Same and Alike, either way round, and that they change nothing.
func wantSame(t *testing.T, a, b api.State, same, alike bool) {
	t.Helper()
	lookA, lookB := kept(t, a), kept(t, b)
	if valid.Same(a, b) != same || valid.Same(b, a) != same {
		t.Errorf("P11.2: Same of\n%v and\n%v isn't %v", a, b, same)
	}
	if valid.Alike(a, b) != alike || valid.Alike(b, a) != alike {
		t.Errorf("P11.2: Alike of\n%v and\n%v isn't %v", a, b, alike)
	}
	lookA("Same and Alike")
	lookB("Same and Alike")
}

func TestSame(t *testing.T) {
	_, b := example(t)
	dirty := valid.Copy(b)
	dirty.Pages[0].Dirty = true
	wantSame(t, b, dirty, false, true)
	wantSame(t, full(), full(), true, true)
	wantSame(t, api.State{}, full(), false, false)
	empty := api.State{Procs: []api.Proc{}, Ready: []int{}, Timers: []api.Timer{}, Up: []bool{}, Sems: []int{}, Ports: []api.Port{}, Pages: []api.Page{}}
	wantSame(t, api.State{}, empty, true, true)
	wantSame(t, api.State{Ports: []api.Port{{}}}, api.State{Ports: []api.Port{{Msgs: []string{}}}}, true, true)
	for _, turn := range unlikes() {
		other := full()
		turn(&other)
		wantSame(t, full(), other, false, false)
		again := full()
		turn(&again)
		wantSame(t, other, again, true, true)
		for _, hide := range unseen() {
			hidden := full()
			turn(&hidden)
			if len(hidden.Pages) < 2 {
				continue
			}
			hide(&hidden)
			wantSame(t, full(), hidden, false, false)
			wantSame(t, other, hidden, false, true)
		}
	}
	for _, hide := range unseen() {
		other := full()
		hide(&other)
		wantSame(t, full(), other, false, true)
	}
}

// TestSameOfThird: of three states that differ by little, two that are the same as a third are the same.
func TestSameOfThird(t *testing.T) {
	r := rand.New(rand.NewSource(113))
	all := append(unlikes(), unseen()...)
	some := func() api.State {
		s := full()
		if r.Intn(3) > 0 {
			all[r.Intn(3)](&s)
		}
		if r.Intn(3) == 0 {
			unseen()[r.Intn(2)](&s)
		}
		return s
	}
	for range 3000 {
		a, b, c := some(), some(), some()
		wantSame(t, a, b, same(a, b), valid.Alike(a, b))
		if valid.Same(a, b) && valid.Same(b, c) && !valid.Same(a, c) {
			t.Errorf("P11.2: Same isn't as equality is")
		}
		if valid.Alike(a, b) && valid.Alike(b, c) && !valid.Alike(a, c) {
			t.Errorf("P11.2: Alike isn't as equality is")
		}
	}
}

// TestCopy: the copy is the same; spoiling a list of it, spare room included, shows neither in the state nor in another list.
func TestCopy(t *testing.T) {
	r := rand.New(rand.NewSource(114))
	states := []api.State{full(), {}}
	for range 300 {
		states = append(states, someState(r, somePlan(r)))
	}
	for _, s := range states {
		look := kept(t, s)
		if c := valid.Copy(s); !same(c, s) || !valid.Same(c, s) || !valid.Same(s, c) {
			t.Fatalf("P11.2: Copy(%v) = %v", s, c)
		}
		for i := range spoilers(api.State{}) {
			c := valid.Copy(s)
			spoilers(c)[i]()
			look("Copy")
			spoilt := api.State{Id: s.Id, Frame: s.Frame, Epoch: s.Epoch}
			keepOthers(&spoilt, s, c, i)
			if !same(c, spoilt) {
				t.Errorf("P11.4: lists of Copy's answer share memory")
			}
		}
		messagesApart(t, s, look)
	}
}

// spoilers: each overwrites one list of the state, spare room included.
func spoilers(s api.State) []func() {
	return []func(){
		func() { fill(s.Procs, api.Proc{Pc: 77}) }, func() { fill(s.Ready, 77) },
		func() { fill(s.Timers, api.Timer{Due: 77}) }, func() { fill(s.Up, true) },
		func() { fill(s.Sems, 77) }, func() { fill(s.Ports, api.Port{Age: 77}) }, func() { fill(s.Pages, api.Page{Rights: 77}) },
	}
}

// keepOthers lays down what a copy must be whose list number i was overwritten: that list as it is, the others as they were.
func keepOthers(to *api.State, was, now api.State, i int) {
	from := slices.Repeat([]api.State{was}, 7)
	from[i] = now
	to.Procs, to.Ready, to.Timers, to.Up = from[0].Procs, from[1].Ready, from[2].Timers, from[3].Up
	to.Sems, to.Ports, to.Pages = from[4].Sems, from[5].Ports, from[6].Pages
}

// messagesApart: the ports' lists of messages, each by itself.
func messagesApart(t *testing.T, s api.State, look func(string)) {
	for i := range s.Ports {
		c := valid.Copy(s)
		fill(c.Ports[i].Msgs, "spoilt")
		look("Copy")
		for k := range c.Ports {
			if k != i && !slices.Equal(c.Ports[k].Msgs, s.Ports[k].Msgs) {
				t.Errorf("P11.4: the messages of two ports share memory")
			}
		}
	}
}
