package port_test

import (
	"math/rand"
	"slices"
	"strconv"
	"testing"

	"ferry/api"
	"ferry/port"
)

// TestQueueInTurn: P7.3. What a queuing port in took it gives out, once each, in its order.
func TestQueueInTurn(t *testing.T) {
	r := rand.New(rand.NewSource(72))
	for depth := 1; depth <= 8; depth++ {
		p := api.PortPlan{Kind: api.QueueIn, Size: 3, Depth: depth}
		var q api.Port
		var taken, given []string
		for step := range 3000 {
			if r.Intn(2) == 0 {
				data := strconv.Itoa(step)
				next, err := port.Put(p, q, data)
				switch {
				case len(data) > 3:
					wantBare(t, "P7.3: Put", err, api.ErrSize)
				case len(taken)-len(given) == depth:
					wantBare(t, "P7.3: Put", err, api.ErrBusy)
				default:
					wantBare(t, "P7.3: Put", err, nil)
					q, taken = next, append(taken, data)
				}
				continue
			}
			next, data, fresh, err := port.Get(p, q)
			if len(taken) == len(given) {
				wantBare(t, "P7.3: Get", err, api.ErrNone)
				continue
			}
			if err != nil || !fresh {
				t.Fatalf("P7.3: Get = %v, %v", fresh, err)
			}
			q, given = next, append(given, data)
		}
		if len(given) < 100 || !slices.Equal(append(given, q.Msgs...), taken) {
			t.Errorf("P7.3: a queue of %d gave out something else than it took", depth)
		}
	}
}

// TestSampleStaysFresh: P7.3. A sample is given as often as it is asked for, and is fresh for Refresh frames, the one of its coming too.
func TestSampleStaysFresh(t *testing.T) {
	for refresh := range 256 {
		plans := []api.PortPlan{{Kind: api.SampleIn, Size: 4, Depth: 1, Refresh: refresh}}
		ports := []api.Port{holding(77, "old")}
		msgs := []api.Msg{{Port: 0, Data: "a"}, {Port: 0, Data: "new"}}
		for frame := range 300 {
			after, reports, err := port.Arrive(plans, ports, msgs)
			if err != nil || len(reports) != 0 {
				t.Fatalf("P7.3: Arrive: %v, %v", reports, err)
			}
			ports, msgs = after, nil
			for range 2 {
				q, data, fresh, err := port.Get(plans[0], ports[0])
				if err != nil || data != "new" || fresh != (frame < refresh) || q.Age != min(frame, 255) {
					t.Fatalf("P7.3: with Refresh %d, in frame %d: Get = %q %d, %v, %v", refresh, frame, data, q.Age, fresh, err)
				}
				ports[0] = q
			}
		}
	}
}

// TestFrames: P7.4, over rows of frames. Each message that comes is put or reported, each one that is written is emitted once, at its frame's end.
func TestFrames(t *testing.T) {
	r := rand.New(rand.NewSource(73))
	for range 200 {
		plans, ports, _ := someFrame(r)
		ports, _, err := port.Emit(plans, ports)
		if err != nil {
			t.Fatal(err)
		}
		for range 12 {
			_, _, msgs := someFrame(r)
			ports = oneFrame(t, r, plans, ports, msgs)
		}
	}
}

func oneFrame(t *testing.T, r *rand.Rand, plans []api.PortPlan, ports []api.Port, msgs []api.Msg) []api.Port {
	t.Helper()
	want, drops := arrived(plans, ports, msgs)
	after, reports, err := port.Arrive(plans, ports, msgs)
	if err != nil || !samePorts(after, want) || !slices.Equal(reports, drops) {
		t.Fatalf("P7.4: Arrive(%v, %#v, %#v) = %#v, %v, %v, want %#v, %v", plans, ports, msgs, after, reports, err, want, drops)
	}
	wrote := make([][]string, len(plans))
	for range 10 * min(len(plans), 1) {
		i, data := r.Intn(len(plans)), someData(r, 8)
		next, err := port.Write(plans[i], after[i], data)
		if err != nil {
			continue
		}
		after[i] = next
		if plans[i].Kind == api.SampleOut {
			wrote[i] = nil
		}
		wrote[i] = append(wrote[i], data)
	}
	var out []api.Msg
	for i, list := range wrote {
		for _, data := range list {
			out = append(out, api.Msg{Port: i, Data: data})
		}
	}
	left, got, err := port.Emit(plans, after)
	if err != nil || !slices.Equal(got, out) {
		t.Fatalf("P7.4: Emit = %#v, %v, want %#v", got, err, out)
	}
	for i, q := range left {
		wantBare(t, "P7.2: a port behind a frame", port.Check(plans[i], q), nil)
		if n, err := port.Most(plans[i]); bytesOf(q) > n || err != nil {
			t.Errorf("P7.1: a port at rest takes %d bytes, Most is %d, %v", bytesOf(q), n, err)
		}
	}
	return left
}

// bytesOf: what a port takes in an image: Age, the count, and each message behind its length.
func bytesOf(q api.Port) int {
	n := 2
	for _, m := range q.Msgs {
		n += 1 + len(m)
	}
	return n
}

// arrived: what the chapter says of Arrive, without the layer's help.
func arrived(plans []api.PortPlan, ports []api.Port, msgs []api.Msg) ([]api.Port, []api.Report) {
	want := make([]api.Port, len(ports))
	for i, q := range ports {
		want[i] = api.Port{Msgs: append([]string{}, q.Msgs...), Age: q.Age}
		if plans[i].Kind == api.SampleIn && len(q.Msgs) == 1 && q.Age != 255 {
			want[i].Age++
		}
	}
	var drops []api.Report
	for _, m := range msgs {
		kind, room := 0, false
		if m.Port >= 0 && m.Port < len(ports) && len(m.Data) <= plans[m.Port].Size {
			kind, room = plans[m.Port].Kind, len(want[m.Port].Msgs) < plans[m.Port].Depth
		}
		switch {
		case kind == api.SampleIn:
			want[m.Port] = api.Port{Msgs: []string{m.Data}}
		case kind == api.QueueIn && room:
			want[m.Port].Msgs = append(want[m.Port].Msgs, m.Data)
		default:
			drops = append(drops, dropped(uint32(m.Port)))
		}
	}
	return want, drops
}

// TestMovesAgainstAModel: every call on any port that fits, and what it answers fits too.
func TestMovesAgainstAModel(t *testing.T) {
	r := rand.New(rand.NewSource(74))
	for range 20000 {
		p := somePlan(r)
		q := somePort(r, p)
		look := kept(t, q)
		data := someData(r, p.Size+2)
		in, queue, full := p.Kind%2 == 1, p.Kind > 2, len(q.Msgs) == p.Depth
		put, putErr := port.Put(p, q, data)
		written, writeErr := port.Write(p, q, data)
		taken, takenErr := put, putErr
		if !in {
			wantBare(t, "P7.2: Put at a port out", putErr, api.ErrKind)
			taken, takenErr = written, writeErr
		} else {
			wantBare(t, "P7.2: Write at a port in", writeErr, api.ErrKind)
		}
		switch {
		case len(data) > p.Size:
			wantBare(t, "P7.2: a message that is too long", takenErr, api.ErrSize)
		case queue && full:
			wantBare(t, "P7.2: a full queue", takenErr, api.ErrBusy)
		case queue:
			wantPort(t, "P7.2: a message put", taken, 0, append(slices.Clone(q.Msgs), data)...)
		default:
			wantPort(t, "P7.2: a message put", taken, 0, data)
		}
		got, text, fresh, getErr := port.Get(p, q)
		if in && len(q.Msgs) > 0 {
			rest, young := q.Msgs, q.Age < p.Refresh
			if queue {
				rest, young = q.Msgs[1:], true
			}
			wantPort(t, "P7.2: Get", got, q.Age, rest...)
			if text != q.Msgs[0] || fresh != young || getErr != nil {
				t.Errorf("P7.2: Get(%v, %q %d) = %q, %v, %v", p, q.Msgs, q.Age, text, fresh, getErr)
			}
		}
		aged, ageErr := port.Age(p, q)
		wantBare(t, "P7.1: Age", ageErr, nil)
		for _, answer := range []api.Port{put, written, got, aged} {
			wantBare(t, "P7.2: an answer", port.Check(p, answer), nil)
			spoil(answer.Msgs)
		}
		look("Put, Write, Get, Age")
	}
}

// TestLongMessages: a message far beyond every limit is refused as one byte too many is.
func TestLongMessages(t *testing.T) {
	huge := long(1 << 20)
	_, err := port.Put(planQ(), api.Port{}, huge)
	wantBare(t, "P7.2: Put", err, api.ErrSize)
	_, err = port.Write(planL(), api.Port{}, huge)
	wantBare(t, "P7.2: Write", err, api.ErrSize)
	wantBare(t, "P7.1: Check", port.Check(planQ(), holding(0, huge)), api.ErrState)
	p := api.PortPlan{Kind: api.QueueIn, Size: 32, Depth: 8}
	q := holding(0)
	for range 8 {
		next, err := port.Put(p, q, long(32))
		wantBare(t, "P7.2: Put", err, nil)
		q = next
	}
	_, err = port.Put(p, q, long(33))
	wantBare(t, "P7.2: Put", err, api.ErrSize)
	_, err = port.Put(p, q, long(32))
	wantBare(t, "P7.2: Put", err, api.ErrBusy)
	if n, err := port.Most(p); n != bytesOf(q) || err != nil {
		t.Errorf("P7.1: Most = %d, %v, and the fullest port takes %d", n, err, bytesOf(q))
	}
}
