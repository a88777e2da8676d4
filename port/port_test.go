package port_test

import (
	"math"
	"slices"
	"testing"

	"ferry/api"
	"ferry/port"
)

func TestCheckPlan(t *testing.T) {
	for _, c := range []struct {
		p    api.PortPlan
		want error
	}{
		{planS(), nil}, {planQ(), nil}, {planO(), nil}, {planL(), nil},
		{api.PortPlan{Kind: 5}, api.ErrKind}, {api.PortPlan{Kind: 0, Size: 4, Depth: 1}, api.ErrKind}, {api.PortPlan{Kind: -1, Size: 4, Depth: 1}, api.ErrKind},
		{api.PortPlan{Kind: 5, Size: 33, Depth: 9, Refresh: -1}, api.ErrKind},
		{api.PortPlan{Kind: 1, Size: 33, Depth: 1}, api.ErrSize}, {api.PortPlan{Kind: 1, Size: 0, Depth: 1}, api.ErrSize}, {api.PortPlan{Kind: 4, Size: -1, Depth: 1}, api.ErrSize},
		{api.PortPlan{Kind: 3, Size: 33, Depth: 9, Refresh: 1}, api.ErrSize},
		{api.PortPlan{Kind: 1, Size: 4, Depth: 2}, api.ErrRange}, {api.PortPlan{Kind: 2, Size: 4, Depth: 2}, api.ErrRange}, {api.PortPlan{Kind: 1, Size: 4}, api.ErrRange},
		{api.PortPlan{Kind: 3, Size: 4}, api.ErrRange}, {api.PortPlan{Kind: 3, Size: 4, Depth: 9}, api.ErrRange}, {api.PortPlan{Kind: 4, Size: 4, Depth: 9}, api.ErrRange},
		{api.PortPlan{Kind: 3, Size: 4, Depth: 2, Refresh: 1}, api.ErrRange}, {api.PortPlan{Kind: 2, Size: 4, Depth: 1, Refresh: 1}, api.ErrRange}, {api.PortPlan{Kind: 4, Size: 4, Depth: 1, Refresh: 1}, api.ErrRange},
		{api.PortPlan{Kind: 1, Size: 4, Depth: 1, Refresh: 256}, api.ErrRange}, {api.PortPlan{Kind: 1, Size: 4, Depth: 1, Refresh: -1}, api.ErrRange}, {api.PortPlan{Kind: 3, Size: 4, Depth: 1, Refresh: -1}, api.ErrRange},
		{api.PortPlan{Kind: 1, Size: 32, Depth: 1, Refresh: 255}, nil}, {api.PortPlan{Kind: 1, Size: 1, Depth: 1}, nil}, {api.PortPlan{Kind: 2, Size: 32, Depth: 1}, nil},
		{api.PortPlan{Kind: 3, Size: 32, Depth: 8}, nil}, {api.PortPlan{Kind: 4, Size: 1, Depth: 8}, nil},
	} {
		wantBare(t, "P7.1: CheckPlan", port.CheckPlan(c.p), c.want)
	}
}

// planError: what the chapter asks of a plan, kind by kind.
func planError(p api.PortPlan) error {
	depth := map[int]int{1: 1, 2: 1, 3: 8, 4: 8}[p.Kind]
	refresh := map[int]int{1: 255}[p.Kind]
	switch {
	case depth == 0:
		return api.ErrKind
	case p.Size < 1 || p.Size > 32:
		return api.ErrSize
	case p.Depth < 1 || p.Depth > depth || p.Refresh < 0 || p.Refresh > refresh:
		return api.ErrRange
	}
	return nil
}

// TestEveryPlan: plans of all sorts, in CheckPlan and Most, and in each call that takes one.
func TestEveryPlan(t *testing.T) {
	edges := []int{math.MinInt, -1, 0, 1, 2, 3, 4, 5, 7, 8, 9, 31, 32, 33, 254, 255, 256, math.MaxInt}
	for _, kind := range edges[:9] {
		for _, size := range edges {
			for _, depth := range edges {
				for _, refresh := range edges {
					onePlan(t, api.PortPlan{Kind: kind, Size: size, Depth: depth, Refresh: refresh})
				}
			}
		}
	}
}

func onePlan(t *testing.T, p api.PortPlan) {
	t.Helper()
	want := planError(p)
	wantBare(t, "P7.1: CheckPlan", port.CheckPlan(p), want)
	n, err := port.Most(p)
	if want == nil {
		most := 2
		if p.Kind == api.SampleIn {
			most = 3 + p.Size
		}
		if p.Kind == api.QueueIn {
			most = 2 + p.Depth + p.Depth*p.Size
		}
		if n != most || err != nil {
			t.Errorf("P7.1: Most(%v) = %d, %v, want %d", p, n, err, most)
		}
		return
	}
	wantBare(t, "P7.1: Most", err, api.ErrPlan)
	if n != 0 {
		t.Errorf("P7.1: Most(%v) = %d beside an error", p, n)
	}
	// A port that fits no plan either: the plan is told first.
	refuseAll(t, p, holding(-1, "a"), "a", api.ErrPlan)
}

// refuseAll looks whether every call refuses the port with that error, and answers nothing beside it.
func refuseAll(t *testing.T, p api.PortPlan, q api.Port, data string, want error) {
	t.Helper()
	wantBare(t, "P7.1: Check", port.Check(p, q), want)
	put, err := port.Put(p, q, data)
	wantBare(t, "P7.2: Put", err, want)
	written, err := port.Write(p, q, data)
	wantBare(t, "P7.2: Write", err, want)
	aged, err := port.Age(p, q)
	wantBare(t, "P7.1: Age", err, want)
	got, text, fresh, err := port.Get(p, q)
	wantBare(t, "P7.2: Get", err, want)
	drained, list, err := port.Drain(p, q)
	wantBare(t, "P7.2: Drain", err, want)
	free, err := port.Free(p, q)
	wantBare(t, "P7.1: Free", err, want)
	for _, q := range []api.Port{put, written, aged, got, drained} {
		wantPort(t, "P7.2: beside an error", q, 0)
	}
	if text != "" || fresh || len(list) != 0 || free {
		t.Errorf("P7.2: beside an error: %q, %v, %q, %v", text, fresh, list, free)
	}
}

func TestCheck(t *testing.T) {
	for _, c := range []struct {
		p    api.PortPlan
		q    api.Port
		want error
	}{
		{planS(), holding(3, "ab"), nil}, {planS(), holding(1), api.ErrState}, {planQ(), holding(1, "a"), api.ErrState}, {planQ(), holding(0, "a", "b", "c"), api.ErrState},
		{planS(), holding(0, "abcde"), api.ErrState}, {api.PortPlan{Kind: 9, Size: 4, Depth: 1}, holding(0), api.ErrPlan}, {api.PortPlan{Kind: 9, Size: 4, Depth: 1}, holding(1), api.ErrPlan},
		{planS(), holding(255, "abcd"), nil}, {planS(), holding(256, "ab"), api.ErrState}, {planS(), holding(-1, "ab"), api.ErrState}, {planS(), holding(-1), api.ErrState},
		{planS(), holding(0, "a", "b"), api.ErrState}, {planS(), holding(0, ""), nil}, {planS(), api.Port{}, nil}, {planS(), api.Port{Msgs: []string{}}, nil},
		{planL(), holding(1, "a"), api.ErrState}, {planL(), holding(0, "a"), nil}, {planL(), holding(0, "a", "b"), api.ErrState}, {planL(), holding(0, "abcde"), api.ErrState},
		{planO(), holding(0, "abcd", ""), nil}, {planO(), holding(0, "abcd", "abcde"), api.ErrState}, {planO(), holding(1, "a"), api.ErrState}, {planO(), holding(0, "", "", ""), api.ErrState},
		{planQ(), holding(0, "", ""), nil}, {planQ(), holding(-1), api.ErrState}, {planQ(), holding(1), api.ErrState}, {planQ(), holding(0, "abcde", "a"), api.ErrState},
	} {
		wantBare(t, "P7.1: Check", port.Check(c.p, c.q), c.want)
		if c.want != nil {
			refuseAll(t, c.p, c.q, "far too long", c.want)
		}
	}
}

func TestPut(t *testing.T) {
	for _, c := range []struct {
		p    api.PortPlan
		q    api.Port
		data string
		want api.Port
	}{
		{planS(), holding(9, "x"), "ab", holding(0, "ab")}, {planS(), holding(0), "abcd", holding(0, "abcd")}, {planS(), holding(255, "x"), "", holding(0, "")},
		{planQ(), holding(0, "x"), "", holding(0, "x", "")}, {planQ(), holding(0), "abcd", holding(0, "abcd")}, {planQ(), holding(0, "x"), "x", holding(0, "x", "x")},
	} {
		look := kept(t, c.q)
		q, err := port.Put(c.p, c.q, c.data)
		wantBare(t, "P7.2: Put", err, nil)
		wantPort(t, "P7.2: Put", q, c.want.Age, c.want.Msgs...)
		spoil(q.Msgs)
		look("Put")
	}
	for _, c := range []struct {
		p    api.PortPlan
		q    api.Port
		data string
		want error
	}{
		{planQ(), holding(0, "x", "y"), "z", api.ErrBusy}, {planQ(), holding(0, "x", "y"), "zzzzz", api.ErrSize}, {planQ(), holding(0, "x", "y"), "", api.ErrBusy},
		{planO(), holding(0), "z", api.ErrKind}, {planO(), holding(0, "x", "y"), "zzzzz", api.ErrKind}, {planL(), holding(0), "z", api.ErrKind},
		{planS(), holding(0), "zzzzz", api.ErrSize}, {planQ(), holding(0), "zzzzz", api.ErrSize},
	} {
		look := kept(t, c.q)
		q, err := port.Put(c.p, c.q, c.data)
		wantBare(t, "P7.2: Put", err, c.want)
		wantPort(t, "P7.2: Put beside an error", q, 0)
		look("Put")
	}
}

func TestWrite(t *testing.T) {
	for _, c := range []struct {
		p    api.PortPlan
		q    api.Port
		data string
		want api.Port
	}{
		{planL(), holding(0, "x"), "y", holding(0, "y")}, {planL(), holding(0), "", holding(0, "")}, {planL(), holding(0), "abcd", holding(0, "abcd")},
		{planO(), holding(0, "x"), "y", holding(0, "x", "y")}, {planO(), holding(0), "", holding(0, "")},
	} {
		look := kept(t, c.q)
		q, err := port.Write(c.p, c.q, c.data)
		wantBare(t, "P7.2: Write", err, nil)
		wantPort(t, "P7.2: Write", q, c.want.Age, c.want.Msgs...)
		spoil(q.Msgs)
		look("Write")
	}
	for _, c := range []struct {
		p    api.PortPlan
		q    api.Port
		data string
		want error
	}{
		{planO(), holding(0, "x", "y"), "z", api.ErrBusy}, {planO(), holding(0, "x", "y"), "zzzzz", api.ErrSize}, {planO(), holding(0), "zzzzz", api.ErrSize},
		{planL(), holding(0, "x"), "zzzzz", api.ErrSize}, {planS(), holding(0), "z", api.ErrKind}, {planQ(), holding(0, "x", "y"), "zzzzz", api.ErrKind},
	} {
		q, err := port.Write(c.p, c.q, c.data)
		wantBare(t, "P7.2: Write", err, c.want)
		wantPort(t, "P7.2: Write beside an error", q, 0)
	}
}

func TestGet(t *testing.T) {
	for _, c := range []struct {
		p     api.PortPlan
		q     api.Port
		want  api.Port
		data  string
		fresh bool
	}{
		{planS(), holding(1, "ab"), holding(1, "ab"), "ab", true}, {planS(), holding(2, "ab"), holding(2, "ab"), "ab", false}, {planS(), holding(0, ""), holding(0, ""), "", true},
		{api.PortPlan{Kind: api.SampleIn, Size: 4, Depth: 1}, holding(0, "ab"), holding(0, "ab"), "ab", false},
		{api.PortPlan{Kind: api.SampleIn, Size: 4, Depth: 1, Refresh: 255}, holding(254, "ab"), holding(254, "ab"), "ab", true},
		{api.PortPlan{Kind: api.SampleIn, Size: 4, Depth: 1, Refresh: 255}, holding(255, "ab"), holding(255, "ab"), "ab", false},
		{planQ(), holding(0, "x", "y"), holding(0, "y"), "x", true}, {planQ(), holding(0, ""), holding(0), "", true},
	} {
		look := kept(t, c.q)
		q, data, fresh, err := port.Get(c.p, c.q)
		wantBare(t, "P7.2: Get", err, nil)
		wantPort(t, "P7.2: Get", q, c.want.Age, c.want.Msgs...)
		if data != c.data || fresh != c.fresh {
			t.Errorf("P7.2: Get(%v, %q) = %q, %v", c.p, c.q.Msgs, data, fresh)
		}
		spoil(q.Msgs)
		look("Get")
	}
	for _, c := range []struct {
		p    api.PortPlan
		q    api.Port
		want error
	}{{planQ(), holding(0), api.ErrNone}, {planS(), holding(0), api.ErrNone}, {planL(), holding(0, "x"), api.ErrKind}, {planO(), holding(0), api.ErrKind}} {
		q, data, fresh, err := port.Get(c.p, c.q)
		wantBare(t, "P7.2: Get", err, c.want)
		wantPort(t, "P7.2: Get beside an error", q, 0)
		if data != "" || fresh {
			t.Errorf("P7.2: Get beside an error: %q, %v", data, fresh)
		}
	}
}

func TestDrain(t *testing.T) {
	for _, c := range []struct {
		p api.PortPlan
		q api.Port
	}{{planO(), holding(0, "x", "y")}, {planO(), holding(0)}, {planO(), api.Port{}}, {planL(), holding(0, "l")}, {planL(), holding(0, "")}, {planL(), holding(0)}} {
		look := kept(t, c.q)
		q, list, err := port.Drain(c.p, c.q)
		wantBare(t, "P7.2: Drain", err, nil)
		wantPort(t, "P7.2: Drain", q, 0)
		if !slices.Equal(list, c.q.Msgs) {
			t.Errorf("P7.2: Drain of %q = %q", c.q.Msgs, list)
		}
		spoil(q.Msgs, list)
		look("Drain")
	}
	for _, p := range []api.PortPlan{planS(), planQ()} {
		q, list, err := port.Drain(p, holding(0, "x"))
		wantBare(t, "P7.2: Drain of a port in", err, api.ErrKind)
		wantPort(t, "P7.2: Drain beside an error", q, 0)
		if len(list) != 0 {
			t.Errorf("P7.2: Drain beside an error: %q", list)
		}
	}
}

func TestAge(t *testing.T) {
	for _, c := range []struct {
		p    api.PortPlan
		q    api.Port
		want int
	}{
		{planS(), holding(255, "ab"), 255}, {planS(), holding(254, "ab"), 255}, {planS(), holding(0, ""), 1}, {planS(), holding(7, "ab"), 8}, {planS(), holding(0), 0},
		{planQ(), holding(0, "x"), 0}, {planQ(), holding(0), 0}, {planO(), holding(0, "x", "y"), 0}, {planL(), holding(0, "x"), 0},
	} {
		look := kept(t, c.q)
		q, err := port.Age(c.p, c.q)
		wantBare(t, "P7.1: Age", err, nil)
		wantPort(t, "P7.1: Age", q, c.want, c.q.Msgs...)
		spoil(q.Msgs)
		look("Age")
	}
}

func TestFree(t *testing.T) {
	for _, c := range []struct {
		p    api.PortPlan
		q    api.Port
		free bool
		want error
	}{
		{planQ(), holding(0), false, nil}, {planQ(), holding(0, ""), true, nil}, {planQ(), holding(0, "x", "y"), true, nil},
		{planO(), holding(0, "x", "y"), false, nil}, {planO(), holding(0, "x"), true, nil}, {planO(), holding(0), true, nil},
		{planS(), holding(0), false, api.ErrKind}, {planS(), holding(0, "x"), false, api.ErrKind}, {planL(), holding(0), false, api.ErrKind}, {planL(), holding(0, "x"), false, api.ErrKind},
	} {
		free, err := port.Free(c.p, c.q)
		wantBare(t, "P7.1: Free", err, c.want)
		if free != c.free {
			t.Errorf("P7.1: Free(%v, %q) = %v", c.p, c.q.Msgs, free)
		}
	}
}

func TestMost(t *testing.T) {
	for _, c := range []struct {
		p    api.PortPlan
		most int
	}{{planS(), 7}, {planQ(), 12}, {planO(), 2}, {planL(), 2}, {api.PortPlan{Kind: 3, Size: 32, Depth: 8}, 266}, {api.PortPlan{Kind: 4, Size: 32, Depth: 8}, 2}, {api.PortPlan{Kind: 1, Size: 32, Depth: 1, Refresh: 255}, 35}} {
		if n, err := port.Most(c.p); n != c.most || err != nil {
			t.Errorf("P7.1: Most(%v) = %d, %v, want %d", c.p, n, err, c.most)
		}
	}
}
