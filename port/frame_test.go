package port_test

import (
	"math"
	"math/rand"
	"slices"
	"testing"

	"ferry/api"
	"ferry/port"
)

func dropped(code uint32) api.Report {
	return api.Report{Kind: api.ReportDrop, Proc: -1, Code: code}
}

func TestArrive(t *testing.T) {
	plans := []api.PortPlan{planS(), planQ(), planO()}
	ports := []api.Port{holding(0, "a"), holding(0, "x"), holding(0)}
	msgs := []api.Msg{{Port: 1, Data: "y"}, {Port: 1, Data: "z"}, {Port: 0, Data: "b"}, {Port: 2, Data: "c"}, {Port: 9, Data: "d"}, {Port: -1, Data: "e"}}
	after, reports, err := port.Arrive(plans, ports, msgs)
	wantBare(t, "P7.4: Arrive", err, nil)
	if !samePorts(after, []api.Port{holding(0, "b"), holding(0, "x", "y"), holding(0)}) {
		t.Errorf("P7.4: Arrive = %v", after)
	}
	if !slices.Equal(reports, []api.Report{dropped(1), dropped(2), dropped(9), dropped(4294967295)}) {
		t.Errorf("P7.4: Arrive reports %v", reports)
	}
	after, reports, err = port.Arrive(nil, []api.Port{}, []api.Msg{{Port: 0}, {Port: math.MaxInt}, {Port: math.MinInt}, {Port: 1 << 32}, {Port: -1 << 32}, {Port: 1<<32 + 5}, {Port: -7}})
	wantBare(t, "P7.4: Arrive at no port", err, nil)
	if len(after) != 0 || !slices.Equal(reports, []api.Report{dropped(0), dropped(4294967295), dropped(0), dropped(0), dropped(0), dropped(5), dropped(4294967289)}) {
		t.Errorf("P7.4: Arrive at no port = %v, %v", after, reports)
	}
	after, reports, err = port.Arrive(nil, nil, nil)
	if len(after) != 0 || len(reports) != 0 || err != nil {
		t.Errorf("P7.4: Arrive of nothing = %v, %v, %v", after, reports, err)
	}
}

// TestArriveAges: every port ages once, ahead of what comes.
func TestArriveAges(t *testing.T) {
	plans := []api.PortPlan{planS(), planS(), planS(), planQ(), planL(), planS()}
	ports := []api.Port{holding(3, "a"), holding(255, "b"), holding(0), holding(0, "q"), holding(0, "l"), holding(8, "c")}
	msgs := []api.Msg{{Port: 5, Data: "new"}, {Port: 0, Data: "too long"}, {Port: 4, Data: "x"}, {Port: 5, Data: "last"}}
	after, reports, err := port.Arrive(plans, ports, msgs)
	wantBare(t, "P7.4: Arrive", err, nil)
	if !samePorts(after, []api.Port{holding(4, "a"), holding(255, "b"), holding(0), holding(0, "q"), holding(0, "l"), holding(0, "last")}) {
		t.Errorf("P7.4: Arrive = %v", after)
	}
	if !slices.Equal(reports, []api.Report{dropped(0), dropped(4)}) {
		t.Errorf("P7.4: Arrive reports %v", reports)
	}
}

func TestEmit(t *testing.T) {
	plans := []api.PortPlan{planS(), planO(), planL(), planQ(), planO(), planL()}
	ports := []api.Port{holding(3, "a"), holding(0, "x", "y"), holding(0, "l"), holding(0, "p", "q"), holding(0), holding(0, "")}
	after, msgs, err := port.Emit(plans, ports)
	wantBare(t, "P7.4: Emit", err, nil)
	if !samePorts(after, []api.Port{holding(3, "a"), {}, {}, holding(0, "p", "q"), {}, {}}) {
		t.Errorf("P7.4: Emit leaves %v", after)
	}
	if !slices.Equal(msgs, []api.Msg{{Port: 1, Data: "x"}, {Port: 1, Data: "y"}, {Port: 2, Data: "l"}, {Port: 5, Data: ""}}) {
		t.Errorf("P7.4: Emit = %v", msgs)
	}
	after, msgs, err = port.Emit(nil, []api.Port{})
	if len(after) != 0 || len(msgs) != 0 || err != nil {
		t.Errorf("P7.4: Emit of nothing = %v, %v, %v", after, msgs, err)
	}
}

func TestFrameErrors(t *testing.T) {
	bad := api.PortPlan{Kind: 9, Size: 4, Depth: 1}
	for _, c := range []struct {
		plans []api.PortPlan
		ports []api.Port
		want  error
		place int
	}{
		{[]api.PortPlan{planS()}, nil, api.ErrArg, -1}, {nil, []api.Port{{}}, api.ErrArg, -1}, {[]api.PortPlan{bad, bad}, []api.Port{holding(1)}, api.ErrArg, -1},
		{[]api.PortPlan{planS(), planS()}, []api.Port{{}, holding(1)}, api.ErrState, 1}, {[]api.PortPlan{planS(), planS()}, []api.Port{holding(1), holding(1)}, api.ErrState, 0},
		{[]api.PortPlan{planS(), {}}, []api.Port{holding(1), {}}, api.ErrPlan, 1}, {[]api.PortPlan{bad, planS(), bad}, []api.Port{{}, holding(1), {}}, api.ErrPlan, 0},
		{[]api.PortPlan{planQ(), planO(), planL(), planS()}, []api.Port{{}, holding(0, "a"), {}, holding(0, "abcde")}, api.ErrState, 3},
	} {
		after, reports, err := port.Arrive(c.plans, c.ports, []api.Msg{{Port: 9}})
		left, msgs, emitErr := port.Emit(c.plans, c.ports)
		for _, err := range []error{err, emitErr} {
			if c.place < 0 {
				wantBare(t, "P7.4: Arrive, Emit", err, c.want)
			} else {
				wantAt(t, "P7.4: Arrive, Emit", err, c.want, c.place)
			}
		}
		if after != nil || reports != nil || left != nil || msgs != nil {
			t.Errorf("P7.4: beside an error: %v, %v, %v, %v", after, reports, left, msgs)
		}
	}
}

// TestManyPorts: Arrive and Emit take as many ports as they are handed; the limit of a partition is its plan's.
func TestManyPorts(t *testing.T) {
	plans := slices.Repeat([]api.PortPlan{planQ(), planO()}, 300)
	ports := slices.Repeat([]api.Port{{}, {Msgs: []string{"x"}}}, 300)
	after, reports, err := port.Arrive(plans, ports, []api.Msg{{Port: 598, Data: "a"}, {Port: 599, Data: "b"}, {Port: 600, Data: "c"}})
	if err != nil || !slices.Equal(reports, []api.Report{dropped(599), dropped(600)}) || !same(after[598], holding(0, "a")) {
		t.Errorf("P7.4: Arrive at 600 ports: %v, %v", reports, err)
	}
	left, msgs, err := port.Emit(plans, after)
	if err != nil || len(left) != 600 || len(msgs) != 300 || msgs[299] != (api.Msg{Port: 599, Data: "x"}) {
		t.Errorf("P7.4: Emit of 600 ports: %d messages, %v", len(msgs), err)
	}
	plans[577].Size = 0
	_, _, err = port.Emit(plans, after)
	wantAt(t, "P7.4: Emit", err, api.ErrPlan, 577)
}

// TestFramesMemory: neither call changes what it is handed, and no list of an answer is shared with anything.
func TestFramesMemory(t *testing.T) {
	r := rand.New(rand.NewSource(71))
	for range 300 {
		plans, ports, msgs := someFrame(r)
		look := kept(t, ports...)
		plansWas, msgsWas, portsWas := slices.Clone(whole(plans)), slices.Clone(whole(msgs)), shapes(ports)
		after, reports, err := port.Arrive(plans, ports, msgs)
		left, out, emitErr := port.Emit(plans, ports)
		if err != nil || emitErr != nil {
			t.Fatalf("P7.4: %v, %v", err, emitErr)
		}
		unshared(t, after)
		unshared(t, left)
		spoilFrame(after, reports, out)
		spoilFrame(left, nil, nil)
		look("Arrive and Emit")
		if !slices.Equal(whole(plans), plansWas) || !slices.Equal(whole(msgs), msgsWas) || !slices.Equal(shapes(ports), portsWas) {
			t.Errorf("R2: Arrive or Emit has changed what it was handed")
		}
	}
}

// shape is what a port is beside its messages.
type shape struct{ age, count int }

// shapes: of the whole list, its spare room too.
func shapes(ports []api.Port) []shape {
	var list []shape
	for _, q := range whole(ports) {
		list = append(list, shape{q.Age, len(q.Msgs)})
	}
	return list
}

// unshared looks whether the ports' lists, spare room included, are each alone.
func unshared(t *testing.T, ports []api.Port) {
	t.Helper()
	for i, q := range ports {
		for k := range whole(q.Msgs) {
			whole(q.Msgs)[k] = string(rune('A' + i))
		}
	}
	for i, q := range ports {
		for _, m := range whole(q.Msgs) {
			if m != string(rune('A'+i)) {
				t.Errorf("R2: port %d of an answer shares memory with another", i)
			}
		}
	}
}

func spoilFrame(ports []api.Port, reports []api.Report, msgs []api.Msg) {
	for i := range whole(ports) {
		whole(ports)[i] = api.Port{Age: 99}
	}
	for i := range whole(reports) {
		whole(reports)[i].Code = 99
	}
	for i := range whole(msgs) {
		whole(msgs)[i].Data = "spoilt"
	}
}

// someFrame: plans and ports that fit, and messages of all sorts, in lists with spare room.
func someFrame(r *rand.Rand) ([]api.PortPlan, []api.Port, []api.Msg) {
	plans, ports, msgs := roomy[api.PortPlan](8), roomy[api.Port](8), roomy[api.Msg](20)
	for range r.Intn(9) {
		p := somePlan(r)
		plans, ports = append(plans, p), append(ports, somePort(r, p))
	}
	for range r.Intn(21) {
		msgs = append(msgs, api.Msg{Port: r.Intn(12) - 1, Data: someData(r, 8)})
	}
	return plans, ports, msgs
}
