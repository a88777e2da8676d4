package ready_test

import (
	"math/rand"
	"slices"
	"testing"

	"ferry/api"
	"ferry/ready"
)

// someState: any state, good or not, all its lists with spare room.
func someState(r *rand.Rand) api.State {
	table := someTable(r)
	if r.Intn(2) == 0 {
		twist(r, &table)
	}
	s := api.State{Id: r.Int(), Frame: r.Int(), Epoch: -r.Int(), Procs: table.Procs, Ready: table.Ready, Timers: table.Timers}
	for range r.Intn(5) {
		s.Up = append(s.Up, r.Intn(2) == 0)
		s.Sems = append(s.Sems, r.Intn(999)-5)
		s.Ports = append(s.Ports, api.Port{Age: r.Intn(300), Msgs: withRoom([]string{"a", "b", "c"}[:r.Intn(4)], "spare")})
		s.Pages = append(s.Pages, api.Page{Rights: r.Intn(9), Dirty: r.Intn(2) == 0, Data: [api.PageSize]byte{0: byte(r.Intn(256)), 63: 9}})
	}
	s.Up, s.Sems, s.Pages = withRoom(s.Up, true), withRoom(s.Sems, 4321), withRoom(s.Pages, api.Page{Rights: 4321})
	s.Ports = withRoom(s.Ports, api.Port{Age: 4321})
	return s
}

// whatItIs: a state with the spare room of all its lists, as new memory.
func whatItIs(s api.State) api.State {
	w := s
	w.Procs, w.Ready, w.Timers = slices.Clone(whole(s.Procs)), slices.Clone(whole(s.Ready)), slices.Clone(whole(s.Timers))
	w.Up, w.Sems, w.Pages = slices.Clone(whole(s.Up)), slices.Clone(whole(s.Sems)), slices.Clone(whole(s.Pages))
	w.Ports = slices.Clone(whole(s.Ports))
	for i := range w.Ports {
		w.Ports[i].Msgs = slices.Clone(whole(w.Ports[i].Msgs))
	}
	return w
}

func sameState(a, b api.State) bool {
	return a.Id == b.Id && a.Frame == b.Frame && a.Epoch == b.Epoch && same(tableOf(a), tableOf(b)) && slices.Equal(a.Up, b.Up) && slices.Equal(a.Sems, b.Sems) && slices.Equal(a.Pages, b.Pages) &&
		slices.EqualFunc(a.Ports, b.Ports, func(p, q api.Port) bool { return p.Age == q.Age && slices.Equal(p.Msgs, q.Msgs) })
}

func tableOf(s api.State) ready.Table {
	return ready.Table{Procs: s.Procs, Ready: s.Ready, Timers: s.Timers}
}

// spoilState overwrites every list of an answer, spare room included.
func spoilState(s api.State) {
	spoil(tableOf(s))
	for i := range whole(s.Up) {
		whole(s.Up)[i] = !whole(s.Up)[i]
	}
	for i := range whole(s.Sems) {
		whole(s.Sems)[i] = -77
	}
	for i := range whole(s.Pages) {
		whole(s.Pages)[i].Rights = -77
	}
	for i := range whole(s.Ports) {
		msgs := whole(whole(s.Ports)[i].Msgs)
		for k := range msgs {
			msgs[k] = "spoilt"
		}
		whole(s.Ports)[i] = api.Port{Age: -77}
	}
}

func TestOfAndInto(t *testing.T) {
	r := rand.New(rand.NewSource(95))
	for range 2000 {
		s, table := someState(r), someTable(r)
		if r.Intn(2) == 0 {
			twist(r, &table)
		}
		was, tableWas := whatItIs(s), entire(table)
		of := ready.Of(s)
		wantTable(t, "P9.1: Of", of, tableOf(s))
		want := s
		want.Procs, want.Ready, want.Timers = table.Procs, table.Ready, table.Timers
		into, again := ready.Into(s, table), ready.Into(s, table)
		if !sameState(into, want) {
			t.Fatalf("P9.1: Into = %v, want %v", into, want)
		}
		if back := ready.Into(s, of); !sameState(back, s) {
			t.Fatalf("P9.1: Into of a state's own table = %v, want %v", back, s)
		}
		spoil(of)
		spoilState(again)
		if !sameState(whatItIs(s), was) || !same(entire(table), tableWas) {
			t.Fatalf("P9.5: what Of or Into was handed has changed")
		}
		if !sameState(into, want) {
			t.Fatalf("P9.5: two answers of Into share memory")
		}
		oneByOne(t, into)
	}
	if of := ready.Of(api.State{}); len(of.Procs) != 0 || len(of.Ready) != 0 || len(of.Timers) != 0 {
		t.Errorf("P9.1: Of the empty state = %v", of)
	}
	if into := ready.Into(api.State{Id: 3}, ready.Table{}); !sameState(into, api.State{Id: 3}) {
		t.Errorf("P9.1: Into the empty state = %v", into)
	}
}

// oneByOne: no two lists of messages of one answer share memory.
func oneByOne(t *testing.T, s api.State) {
	t.Helper()
	for i, q := range s.Ports {
		for k := range whole(q.Msgs) {
			whole(q.Msgs)[k] = string(rune('A' + i))
		}
	}
	for i, q := range s.Ports {
		for _, m := range whole(q.Msgs) {
			if m != string(rune('A'+i)) {
				t.Errorf("P9.5: port %d of an answer shares memory with another", i)
			}
		}
	}
}

// TestSharedArgument: a list that stands in two places of what is handed in stands in two memories of the answer.
func TestSharedArgument(t *testing.T) {
	msgs := []string{"a", "b"}
	numbers := []int{1, 0}
	s := api.State{Ports: []api.Port{{Msgs: msgs}, {Msgs: msgs}}, Sems: numbers, Ready: numbers}
	into := ready.Into(s, ready.Table{Ready: numbers})
	into.Ports[0].Msgs[0], into.Sems[0] = "spoilt", 77
	if into.Ports[1].Msgs[0] != "a" || into.Ready[0] != 1 || msgs[0] != "a" || numbers[0] != 1 {
		t.Errorf("P9.5: lists of one answer share memory: %v", into)
	}
}
