package image_test

import (
	"math"
	"math/rand"
	"slices"
	"strings"
	"testing"

	"ferry/api"
	"ferry/image"
	"ferry/plan"
	"ferry/valid"
	"ferry/wire"
)

// TestExample: the example 6.
func TestExample(t *testing.T) {
	b := encode(t, examplePlan(), exampleState())
	if !slices.Equal(b, sealed(exampleBytes())) || len(b) != 189 {
		t.Errorf("P16.2: Encode = %x, want %x", b, sealed(exampleBytes()))
	}
	n, err := image.Size(examplePlan(), exampleState())
	wantNone(t, "P16.2: Size", err)
	if n != 189 {
		t.Errorf("P16.2: Size = %d", n)
	}
	s, err := image.Decode(examplePlan(), b)
	wantNone(t, "P16.2: Decode", err)
	if !valid.Same(s, exampleState()) {
		t.Errorf("P16.3: Decode = %v", s)
	}
	recs, err := image.Fields(examplePlan(), exampleState())
	wantNone(t, "P16.2: Fields", err)
	all, err := image.Records(b)
	wantNone(t, "P16.1: Records", err)
	wantRecs(t, "P16.2: Fields", recs, all[:6])
	if bound, err := plan.Bound(examplePlan()); err != nil || bound != 204 {
		t.Errorf("P16.5: Bound = %d, %v", bound, err)
	}
}

// TestPortBodies: the example 4, and other bodies of a port.
func TestPortBodies(t *testing.T) {
	for _, x := range []struct {
		body string
		err  error
		age  int
		msgs []string
	}{
		{"\x05\x02\x01\x41\x00", nil, 5, []string{"A", ""}}, {"\x05\x02\x01\x41", api.ErrLength, 0, nil}, {"\x05\x00\x00", api.ErrLength, 0, nil},
		{"", api.ErrLength, 0, nil}, {"\x05", api.ErrLength, 0, nil}, {"\x05\x00", nil, 5, nil}, {"\xff\x01\x00", nil, 255, []string{""}}, {"\x00\x01", api.ErrLength, 0, nil},
		{"\x00\x01\x02\x41", api.ErrLength, 0, nil}, {"\x00\x01\x01\x41\x00", api.ErrLength, 0, nil}, {"\x00\x01\xff" + strings.Repeat("x", 255), nil, 0, []string{strings.Repeat("x", 255)}},
		{"\x00\x01\xff" + strings.Repeat("x", 254), api.ErrLength, 0, nil}, {"\x00\xff" + strings.Repeat("\x00", 255), nil, 0, make([]string, 255)}, {"\x00\xff" + strings.Repeat("\x00", 254), api.ErrLength, 0, nil},
		{"\x00\xff" + strings.Repeat("\x00", 256), api.ErrLength, 0, nil}, {"\x00\x02\x03abc\x02de", nil, 0, []string{"abc", "de"}},
	} {
		s, err := image.Fill([]wire.Rec{{Tag: 99}, {Tag: 8, Body: []byte(x.body)}})
		if x.err != nil {
			want(t, "P16.2: Fill of a port", err, x.err, 1)
			continue
		}
		wantNone(t, "P16.2: Fill of a port", err)
		if len(s.Ports) != 1 || s.Ports[0].Age != x.age || !slices.Equal(s.Ports[0].Msgs, x.msgs) {
			t.Errorf("P16.2: Fill of %q = %v", x.body, s.Ports)
		}
	}
}

// TestBodyErrors: each tag's body error, at each length about those that fit.
func TestBodyErrors(t *testing.T) {
	fits := func(tag, n int) bool {
		switch tag {
		case 1, 2:
			return n == 8
		case 3:
			return n == 68
		case 5:
			return n%5 == 0
		case 9, 10:
			return n == 65
		}
		return tag != 8 || n == 2
	}
	for _, tag := range []int{math.MinInt, -1, 0, 1, 2, 3, 4, 5, 6, 7, 8, 9, 10, 11, 200, 255, 256, 257, 265, math.MaxInt} {
		for _, n := range append(rangeOf(140), 255, 256, 65535, 65536, 70000) {
			recs := append(leastRecs(), wire.Rec{Tag: tag, Body: make([]byte, n)}, wire.Rec{Tag: 1})
			wanted, place := api.ErrLength, 5
			if fits(tag, n) {
				place = 6
			}
			s, err := image.Fill(recs)
			want(t, "P16.2: Fill", err, wanted, place)
			if !valid.Same(s, api.State{}) {
				t.Errorf("F1: Fill = %v beside an error", s)
			}
			_, err = image.Fill(recs[:6])
			if fits(tag, n) {
				wantNone(t, "P16.2: Fill", err)
			}
			if t.Failed() {
				t.Fatalf("tag %d, %d bytes", tag, n)
			}
		}
	}
}

func rangeOf(n int) []int {
	var all []int
	for i := range n {
		all = append(all, i)
	}
	return all
}

// TestFlags: what is neither 0 nor 1 is ErrRange, behind ErrLength, in events and ahead of a page.
func TestFlags(t *testing.T) {
	page := func(first byte, n int) wire.Rec {
		return wire.Rec{Tag: 9, Body: append([]byte{first}, slices.Repeat([]byte{0xEE}, n-1)...)}
	}
	for c := range 256 {
		at := 1
		var wanted error
		if c > 1 {
			wanted = api.ErrRange
		} else {
			at = -1
		}
		s, err := image.Fill([]wire.Rec{{Tag: 0}, {Tag: 6, Body: []byte{0, 1, byte(c)}}})
		want(t, "P16.2: Fill of events", err, wanted, at)
		if err == nil && !slices.Equal(s.Up, []bool{false, true, c == 1}) {
			t.Errorf("P16.2: Fill of events = %v", s.Up)
		}
		s, err = image.Fill([]wire.Rec{{Tag: 0}, page(byte(c), 65)})
		want(t, "P16.2: Fill of a page", err, wanted, at)
		if err == nil && (len(s.Pages) != 1 || s.Pages[0].Dirty != (c == 1) || s.Pages[0].Rights != 0 || s.Pages[0].Data[0] != 0xEE || s.Pages[0].Data[63] != 0xEE) {
			t.Errorf("P16.2: Fill of a page = %v", s.Pages)
		}
		_, err = image.Fill([]wire.Rec{{Tag: 0}, page(byte(c), 66)})
		want(t, "P16.2: Fill of a page that is too long", err, api.ErrLength, 1)
		patch := page(byte(c), 65)
		patch.Tag = 10
		_, err = image.Fill([]wire.Rec{patch, {Tag: 7, Body: []byte{byte(c)}}, {Tag: 4, Body: []byte{byte(c)}}})
		wantNone(t, "P16.2: Fill of what is no flag", err)
	}
	_, err := image.Fill([]wire.Rec{{Tag: 6, Body: []byte{2}}, {Tag: 3}})
	want(t, "P16.2: Fill of two that are wrong", err, api.ErrRange, 0)
	_, err = image.Fill([]wire.Rec{{Tag: 3}, {Tag: 6, Body: []byte{2}}})
	want(t, "P16.2: Fill of two that are wrong", err, api.ErrLength, 0)
	_, err = image.Fill([]wire.Rec{{Tag: 6, Body: append(make([]byte, 70000), 2)}})
	want(t, "P16.2: Fill of many events", err, api.ErrRange, 0)
}

// TestFill: the example 5, and what each tag puts, in any order.
func TestFill(t *testing.T) {
	proc := append(make([]byte, 0, 68), 0xFF, 0xFF, 0xFF, 0xFE)
	for i := 2; i < 16; i++ {
		proc = append(proc, byte(i), 0, 0, byte(i))
	}
	proc = append(proc, 0x80, 0, 0, 1, 255, 254, 253, 252)
	recs := []wire.Rec{
		{Tag: 9, Body: append([]byte{1, 0xA0}, make([]byte, 63)...)}, {Tag: 7, Body: []byte{1, 2, 255}}, {Tag: 8, Body: []byte{7, 0}}, {Tag: 5, Body: []byte{255, 255, 255, 255, 255, 1, 0, 0, 1, 2}},
		{Tag: 3, Body: proc}, {Tag: 4, Body: []byte{255, 0, 7, 7}}, {Tag: 1, Body: []byte{255, 255, 255, 255, 0, 0, 1, 0}}, {Tag: 10, Body: make([]byte, 65)}, {Tag: 6, Body: []byte{1}},
		{Tag: 3, Body: make([]byte, 68)}, {Tag: 8, Body: []byte{0, 1, 1, 'x'}}, {Tag: 2, Body: make([]byte, 8)}, {Tag: 200, Body: []byte("some")}, {Tag: 9, Body: make([]byte, 65)},
	}
	first := api.Proc{Pc: 0x80000001, State: 255, Prio: 254, Wait: 253, Obj: 252}
	first.Regs[1] = 0xFFFFFFFE
	for i := 2; i < 16; i++ {
		first.Regs[i] = uint32(i)<<24 | uint32(i)
	}
	wanted := api.State{
		Frame: 4294967295, Epoch: 256, Procs: []api.Proc{first, {}}, Ready: []int{255, 0, 7, 7}, Timers: []api.Timer{{Proc: 255, Due: 4294967295}, {Proc: 1, Due: 258}},
		Up: []bool{true}, Sems: []int{1, 2, 255}, Ports: []api.Port{{Age: 7}, {Msgs: []string{"x"}}}, Pages: []api.Page{{Dirty: true}, {}},
	}
	wanted.Pages[0].Data[0] = 0xA0
	wantFill(t, wanted, recs...)
	wanted.Ready, wanted.Timers, wanted.Up, wanted.Sems, wanted.Frame, wanted.Epoch = nil, nil, []bool{false, true}, []int{9}, 3, 4
	wantFill(t, wanted, append(recs, wire.Rec{Tag: 4}, wire.Rec{Tag: 5}, wire.Rec{Tag: 6, Body: []byte{0, 1}}, wire.Rec{Tag: 7, Body: []byte{9}}, wire.Rec{Tag: 1, Body: []byte{0, 0, 0, 3, 0, 0, 0, 4}})...)
	wantFill(t, api.State{})
	wantFill(t, api.State{}, wire.Rec{Tag: 200}, wire.Rec{Tag: 0, Body: []byte{1}}, wire.Rec{Tag: math.MinInt}, wire.Rec{Tag: 257}, wire.Rec{Tag: 2, Body: make([]byte, 8)}, wire.Rec{Tag: 10, Body: make([]byte, 65)})
	s, err := image.Fill([]wire.Rec{{Tag: 4, Body: make([]byte, 70000)}})
	wantNone(t, "P16.2: Fill of a long list", err)
	if len(s.Ready) != 70000 {
		t.Errorf("P16.2: Fill of a long list: %d", len(s.Ready))
	}
}

func wantFill(t *testing.T, wanted api.State, recs ...wire.Rec) {
	t.Helper()
	s, err := image.Fill(recs)
	wantNone(t, "P16.2: Fill", err)
	if !valid.Same(s, wanted) {
		t.Errorf("P16.2: Fill = %v, want %v", s, wanted)
	}
}

// TestEncodeErrors: those of valid.Rest, with their places, in all three calls.
func TestEncodeErrors(t *testing.T) {
	for _, x := range []struct {
		turn  func(p *api.Plan, s *api.State)
		err   error
		place int
	}{
		{func(p *api.Plan, s *api.State) { p.Procs = nil }, api.ErrPlan, -1}, {func(p *api.Plan, s *api.State) { p.Id, s.Frame = -1, -1 }, api.ErrPlan, -1}, {func(p *api.Plan, s *api.State) { p.Pages[0].Rights = 9 }, api.ErrPlan, -1},
		{func(p *api.Plan, s *api.State) { s.Id = 4 }, api.ErrState, 1}, {func(p *api.Plan, s *api.State) { s.Frame = -1 }, api.ErrState, 2}, {func(p *api.Plan, s *api.State) { s.Pages = nil }, api.ErrState, 3},
		{func(p *api.Plan, s *api.State) { s.Ready = nil }, api.ErrState, 7}, {func(p *api.Plan, s *api.State) { s.Pages[0].Rights = 6 }, api.ErrState, 13},
		{func(p *api.Plan, s *api.State) {
			p.Ports, s.Ports = []api.PortPlan{{Kind: api.QueueOut, Size: 1, Depth: 1}}, []api.Port{{Msgs: []string{""}}}
		}, api.ErrState, 17},
	} {
		p, s := examplePlan(), exampleState()
		x.turn(&p, &s)
		b, err := image.Encode(p, s)
		want(t, "P16.2: Encode", err, x.err, x.place)
		n, err := image.Size(p, s)
		want(t, "P16.2: Size", err, x.err, x.place)
		recs, err := image.Fields(p, s)
		want(t, "P16.2: Fields", err, x.err, x.place)
		if len(b) > 0 || n != 0 || len(recs) > 0 {
			t.Errorf("F1: Encode %x, Size %d, Fields %v beside an error", b, n, recs)
		}
	}
}

// TestDecodeErrors: every error, and their order: what is wrong in several ways has the first one's.
func TestDecodeErrors(t *testing.T) {
	// forged: the example's image, turned and with the sum of what comes out.
	forged := func(pairs ...int) []byte {
		b := exampleBytes()
		for i := 0; i < len(pairs); i += 2 {
			b[pairs[i]] = byte(pairs[i+1])
		}
		return sealed(b)
	}
	other, another := examplePlan(), examplePlan()
	other.Mobile, another.Id = false, 4
	delta, err := image.Pack(2, 0, 0, append(recsOf(1, 2, 3, 4, 5, 6, 7), recsOf(10)...))
	wantNone(t, "Pack", err)
	for _, x := range []struct {
		what  string
		p     api.Plan
		b     []byte
		err   error
		place int
	}{
		{"no plan", api.Plan{}, nil, api.ErrPlan, -1}, {"no plan of a good image", api.Plan{Id: -1}, forged(), api.ErrPlan, -1}, {"nothing", examplePlan(), nil, api.ErrShort, -1}, {"too much", examplePlan(), make([]byte, 4097), api.ErrSize, -1},
		{"a wrong sum", examplePlan(), exampleBytes(), api.ErrSum, -1}, {"another name", other, forged(0, 'G', 5, 2), api.ErrTag, 0}, {"another version", other, forged(5, 2, 7, 3), api.ErrKind, 4}, {"another kind", other, forged(7, 3, 11, 0), api.ErrKind, 6},
		{"another length", other, forged(11, 0xbe, 20, 0), api.ErrLength, 8}, {"the tag 0", other, forged(20, 0), api.ErrTag, 20}, {"a record too long", other, forged(118, 0x42), api.ErrLength, 118}, {"a tag that can't stand there", other, forged(20, 9), api.ErrTag, 0},
		{"a delta of no plan", examplePlan(), delta, api.ErrKind, 6}, {"another plan", other, forged(112, 2), api.ErrPlan, 12}, {"another plan's Id and sum", another, forged(), api.ErrPlan, 12}, {"another sum", examplePlan(), forged(15, 0, 19, 4), api.ErrPlan, 12},
		{"another Id", examplePlan(), forged(19, 4, 112, 2), api.ErrPlan, 16}, {"an Id above", examplePlan(), forged(16, 128), api.ErrPlan, 16}, {"an event of 2", examplePlan(), forged(112, 2, 20+3, 255), api.ErrRange, 4}, {"a page's flag of 2", examplePlan(), forged(120, 2), api.ErrRange, 6},
		{"a flag ahead of a rule", examplePlan(), forged(120, 2, 98, 9), api.ErrRange, 6}, {"Frame above", examplePlan(), forged(23, 128), api.ErrState, 2}, {"Epoch above", examplePlan(), forged(27, 128), api.ErrState, 2}, {"State 9", examplePlan(), forged(98, 9), api.ErrState, 4},
		{"State 2", examplePlan(), forged(98, 2), api.ErrState, 5}, {"Obj 1", examplePlan(), forged(101, 1), api.ErrState, 6}, {"Ready 1", examplePlan(), forged(105, 1), api.ErrState, 7}, {"as it is", examplePlan(), forged(), nil, -1},
	} {
		s, err := image.Decode(x.p, x.b)
		want(t, "P16.2: Decode: "+x.what, err, x.err, x.place)
		if err != nil && !valid.Same(s, api.State{}) {
			t.Errorf("F1: Decode: %s: %v beside an error", x.what, s)
		}
	}
}

// TestDecodeLists: as many of all as the plan has, and bodies whose length is wrong, tell their places.
func TestDecodeLists(t *testing.T) {
	p := examplePlan()
	sum, err := plan.Sum(p)
	wantNone(t, "plan.Sum", err)
	good, err := image.Records(encode(t, p, exampleState()))
	wantNone(t, "Records", err)
	decodes := func(what string, wanted error, place int, recs []wire.Rec) {
		t.Helper()
		b, err := image.Pack(1, sum, p.Id, recs)
		wantNone(t, "P16.1: Pack", err)
		_, err = image.Decode(p, b)
		want(t, "P16.2: Decode: "+what, err, wanted, place)
	}
	put := func(at int, body ...byte) []wire.Rec {
		recs := slices.Clone(good)
		recs[at].Body = body
		return recs
	}
	decodes("as it is", nil, -1, good)
	decodes("no page", api.ErrState, 3, good[:6])
	decodes("two pages", api.ErrState, 3, slices.Insert(slices.Clone(good), 6, good[6]))
	decodes("no process", api.ErrState, 3, slices.Delete(slices.Clone(good), 1, 2))
	decodes("two processes", api.ErrState, 3, slices.Insert(slices.Clone(good), 1, good[1]))
	decodes("a port", api.ErrState, 3, slices.Insert(slices.Clone(good), 6, wire.Rec{Tag: 8, Body: []byte{0, 0}}))
	decodes("a port without a count", api.ErrLength, 6, slices.Insert(slices.Clone(good), 6, wire.Rec{Tag: 8, Body: []byte{0}}))
	decodes("no event", api.ErrState, 3, put(4))
	decodes("two events", api.ErrState, 3, put(4, 0, 1))
	decodes("no semaphore", api.ErrState, 3, put(5))
	decodes("nobody is ready", api.ErrState, 7, put(2))
	decodes("ready twice", api.ErrState, 7, put(2, 0, 0))
	decodes("a timer of one that isn't waiting", api.ErrState, 9, put(3, 0, 0, 0, 0, 1))
	decodes("a timer of nobody", api.ErrState, 8, put(3, 1, 0, 0, 0, 1))
	decodes("a timer that is cut", api.ErrLength, 3, put(3, 0, 0, 0, 1))
	decodes("no counters", api.ErrLength, 0, put(0))
	decodes("half a process", api.ErrLength, 1, put(1, 0))
	decodes("a page that is cut", api.ErrLength, 6, put(6, good[6].Body[:64]...))
}

// TestBound: no image is longer than the bound less a delta's 11 bytes, and one comes to that.
func TestBound(t *testing.T) {
	r := rand.New(rand.NewSource(163))
	for n := range 3000 {
		p := somePlan(r)
		if n == 0 {
			p = great()
		}
		bound, err := plan.Bound(p)
		wantNone(t, "plan.Bound", err)
		if n == 0 && bound != 4096 {
			t.Fatalf("the great plan's bound is %d", bound)
		}
		if b := encode(t, p, fullest(p)); len(b) != bound-11 {
			t.Errorf("P16.5: the fullest state has %d bytes, the bound is %d", len(b), bound)
		}
		size, err := image.Size(p, someState(t, r, p))
		wantNone(t, "P16.2: Size", err)
		if size > bound-11 {
			t.Errorf("P16.5: a state has %d bytes, the bound is %d", size, bound)
		}
	}
}
