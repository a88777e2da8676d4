package delta_test

import (
	"math"
	"math/rand"
	"slices"
	"testing"

	"ferry/api"
	"ferry/delta"
	"ferry/epoch"
	"ferry/image"
)

// TestExampleBytes: the example 1, and the same bytes of Put and Read.
func TestExampleBytes(t *testing.T) {
	p, wanted := examplePlan(), forged()
	if len(wanted) != 200 || !slices.Equal(wanted[196:], []byte{0x63, 0xd4, 0xe2, 0xa9}) || lastSum(encode(t, p, exampleBase())) != exampleSum {
		t.Fatalf("the example's bytes: %x", wanted)
	}
	if b := makeDelta(t, p, exampleState(), exampleSum); !slices.Equal(b, wanted) {
		t.Errorf("P18.1: Make = %x, want %x", b, wanted)
	}
	b, err := delta.Put(p, exampleDelta())
	wantNone(t, "P18.1: Put", err)
	if !slices.Equal(b, wanted) {
		t.Errorf("P18.1: Put = %x, want %x", b, wanted)
	}
	d, err := delta.Read(p, wanted)
	wantNone(t, "P18.1: Read", err)
	if !same(d, exampleDelta()) {
		t.Errorf("P18.1: Read = %v, want %v", d, exampleDelta())
	}
	wantNone(t, "P18.1: Check", delta.Check(p, exampleDelta()))
}

// TestExampleApply: the example 2.
func TestExampleApply(t *testing.T) {
	p, b := examplePlan(), forged()
	s, err := delta.Apply(p, exampleBase(), exampleSum, b)
	wantNone(t, "P18.2: Apply", err)
	wantState(t, "P18.3: Apply", s, exampleMark())
	older, dirty := exampleBase(), exampleBase()
	older.Epoch, dirty.Pages[0].Dirty = 3, true
	applyFails(t, "over another sum", p, exampleBase(), exampleSum-1, b, api.ErrBase, -1)
	applyFails(t, "over another epoch", p, older, exampleSum, b, api.ErrBase, -1)
	applyFails(t, "over a dirty page", p, dirty, exampleSum, b, api.ErrBase, -1)
}

func applyFails(t *testing.T, what string, p api.Plan, base api.State, sum uint32, b []byte, wanted error, place int) {
	t.Helper()
	s, err := delta.Apply(p, base, sum, b)
	want(t, "P18.2: Apply "+what, err, wanted, place)
	wantState(t, "F1: Apply "+what, s, api.State{})
}

// TestExampleChain: the example 3, and what else may stand in a chain.
func TestExampleChain(t *testing.T) {
	p := examplePlan()
	full, b := encode(t, p, exampleBase()), forged()
	chainIs(t, p, exampleMark(), 0xa9e2d463, full, b)
	chainIs(t, p, exampleBase(), exampleSum, full)
	chainFails(t, "the other order", p, api.ErrKind, 0, b, full)
	chainFails(t, "the delta twice", p, api.ErrBase, 2, full, b, b)
	chainFails(t, "none", p, api.ErrArg, -1)
	chainFails(t, "a full image behind", p, api.ErrKind, 1, full, full)
	chainFails(t, "a delta alone", p, api.ErrKind, 0, b)
	chainFails(t, "nothing as an image", p, api.ErrShort, 0, nil)
	chainFails(t, "nothing behind an image", p, api.ErrShort, 1, full, nil)
	chainFails(t, "nothing behind two images", p, api.ErrShort, 2, full, b, nil)
	chainFails(t, "a wrong sum", p, api.ErrSum, 1, full, b[:199])
	chainFails(t, "a wrong sum of the first", p, api.ErrSum, 0, full[:188], b[:199])
	chainFails(t, "a rule", p, api.ErrState, 1, full, forged(109, 9))
	chainFails(t, "an error at the place 0", p, api.ErrTag, 1, full, forged(0, 0))
	chainFails(t, "another plan's sum", p, api.ErrPlan, 1, full, forged(12, 0))
	chainFails(t, "a page that isn't there", p, api.ErrRange, 1, full, forged(131, 1))
	chainFails(t, "the base's own state with a dirty page", p, api.ErrBase, 1, encode(t, p, exampleState()), makeDelta(t, p, exampleState(), lastSum(encode(t, p, exampleState()))))
	chainFails(t, "no plan", api.Plan{}, api.ErrPlan, -1)
	chainFails(t, "no plan of good images", api.Plan{Id: 3}, api.ErrPlan, -1, full, b)
	other := examplePlan()
	other.Mobile = false
	chainFails(t, "another plan", other, api.ErrPlan, 0, full, b)
}

func chainIs(t *testing.T, p api.Plan, s api.State, sum uint32, images ...[]byte) {
	t.Helper()
	got, gotSum, err := delta.Chain(p, images)
	wantNone(t, "P18.4: Chain", err)
	wantState(t, "P18.4: Chain", got, s)
	if gotSum != sum {
		t.Errorf("P18.4: Chain's sum is %x, want %x", gotSum, sum)
	}
	b, err := delta.Compact(p, images)
	wantNone(t, "P18.4: Compact", err)
	if !slices.Equal(b, encode(t, p, s)) {
		t.Errorf("P18.4: Compact = %x", b)
	}
	got, err = image.Decode(p, b)
	wantNone(t, "P18.4: Compact's image", err)
	wantState(t, "P18.4: Compact's image", got, s)
}

func chainFails(t *testing.T, what string, p api.Plan, wanted error, place int, images ...[]byte) {
	t.Helper()
	s, sum, err := delta.Chain(p, images)
	want(t, "P18.4: Chain: "+what, err, wanted, place)
	b, err := delta.Compact(p, images)
	want(t, "P18.4: Compact: "+what, err, wanted, place)
	wantState(t, "F1: Chain: "+what, s, api.State{})
	if sum != 0 || len(b) > 0 {
		t.Errorf("F1: %s: the sum %x and the image %x beside an error", what, sum, b)
	}
}

// TestLongChains: 64 images are taken, 65 are not, whatever they are.
func TestLongChains(t *testing.T) {
	p, s := examplePlan(), exampleBase()
	images := [][]byte{encode(t, p, s)}
	for len(images) < 65 {
		s.Frame++
		s.Pages[0].Dirty = true
		s.Pages[0].Data[1]++
		images = append(images, makeDelta(t, p, s, lastSum(images[len(images)-1])))
		s.Epoch++
		s.Pages[0].Dirty = false
		if len(images) == 64 {
			chainIs(t, p, s, lastSum(images[63]), images...)
			spoilt := slices.Clone(images)
			spoilt[63] = nil
			chainFails(t, "a spoilt end", p, api.ErrShort, 63, spoilt...)
		}
	}
	chainFails(t, "65 images", p, api.ErrArg, -1, images...)
	chainFails(t, "65 images of nothing", p, api.ErrArg, -1, make([][]byte, 65)...)
	chainFails(t, "64 images of nothing", p, api.ErrShort, 0, make([][]byte, 64)...)
	chainFails(t, "65 images of no plan", api.Plan{}, api.ErrPlan, -1, images...)
}

// TestBehindCompact: a later delta is bound to the chain's last image, and to no other.
func TestBehindCompact(t *testing.T) {
	p := examplePlan()
	images := [][]byte{encode(t, p, exampleBase()), forged()}
	b, err := delta.Compact(p, images)
	wantNone(t, "P18.4: Compact", err)
	next := exampleMark()
	next.Frame, next.Pages[0].Dirty = 5, true
	over := makeDelta(t, p, next, lastSum(images[1]))
	chainFails(t, "a delta behind the compact image", p, api.ErrBase, 1, b, over)
	marked, err := epoch.Mark(p, next)
	wantNone(t, "epoch.Mark", err)
	chainIs(t, p, marked, lastSum(over), append(images, over)...)
}

// fault is a turn of a delta and what Check answers then.
type fault struct {
	what  string
	turn  func(p *api.Plan, d *api.Delta)
	err   error
	place int
}

// faults: at least one for each of Check's errors, in their order.
func faults() []fault {
	page := api.Page{Rights: 7}
	return []fault{
		{"no plan", func(p *api.Plan, d *api.Delta) { p.Procs = nil }, api.ErrPlan, -1},
		{"a plan whose page has no such rights", func(p *api.Plan, d *api.Delta) { p.Pages[0].Rights = 8 }, api.ErrPlan, -1},
		{"State's pages", func(p *api.Plan, d *api.Delta) { d.State.Pages = []api.Page{page} }, api.ErrArg, -1},
		{"another Id", func(p *api.Plan, d *api.Delta) { d.State.Id = 4 }, api.ErrState, 1},
		{"Frame -1", func(p *api.Plan, d *api.Delta) { d.State.Frame = -1 }, api.ErrState, 2},
		{"an epoch behind the last", func(p *api.Plan, d *api.Delta) { d.State.Epoch, d.BaseEpoch = api.MaxEpoch+1, api.MaxEpoch+1 }, api.ErrState, 2},
		{"no process", func(p *api.Plan, d *api.Delta) { d.State.Procs = nil }, api.ErrState, 3},
		{"Regs[0]", func(p *api.Plan, d *api.Delta) { d.State.Procs[0].Regs[0] = 1 }, api.ErrState, 4},
		{"nobody ready", func(p *api.Plan, d *api.Delta) { d.State.Ready = nil }, api.ErrState, 7},
		{"a port out that holds something", func(p *api.Plan, d *api.Delta) {
			p.Ports, d.State.Ports = []api.PortPlan{{Kind: api.SampleOut, Size: 1, Depth: 1}}, []api.Port{{Msgs: []string{"x"}}}
		}, api.ErrState, 17},
		{"the last epoch", func(p *api.Plan, d *api.Delta) { d.State.Epoch, d.BaseEpoch = api.MaxEpoch, api.MaxEpoch }, api.ErrEnd, -1},
		{"the last epoch over another", func(p *api.Plan, d *api.Delta) { d.State.Epoch = api.MaxEpoch }, api.ErrEnd, -1},
		{"BaseEpoch 1", func(p *api.Plan, d *api.Delta) { d.BaseEpoch = 1 }, api.ErrBase, -1},
		{"BaseEpoch 3", func(p *api.Plan, d *api.Delta) { d.BaseEpoch = 3 }, api.ErrBase, -1},
		{"a base epoch far off", func(p *api.Plan, d *api.Delta) { d.BaseEpoch = math.MinInt }, api.ErrBase, -1},
		{"a base epoch that agrees in 32 bits", func(p *api.Plan, d *api.Delta) { d.BaseEpoch = 1<<32 + 2 }, api.ErrBase, -1},
		{"a page twice", func(p *api.Plan, d *api.Delta) { d.Index, d.Pages = []int{0, 0}, []api.Page{page, page} }, api.ErrArg, -1},
		{"a page that isn't there", func(p *api.Plan, d *api.Delta) { d.Index = []int{1} }, api.ErrArg, -1},
		{"a page below", func(p *api.Plan, d *api.Delta) { d.Index = []int{-1} }, api.ErrArg, -1},
		{"a page that agrees in a byte", func(p *api.Plan, d *api.Delta) { d.Index = []int{256} }, api.ErrArg, -1},
		{"a page far off", func(p *api.Plan, d *api.Delta) { d.Index = []int{math.MaxInt} }, api.ErrArg, -1},
		{"a page without a number", func(p *api.Plan, d *api.Delta) { d.Index = nil }, api.ErrArg, -1},
		{"a number without a page", func(p *api.Plan, d *api.Delta) { d.Pages = nil }, api.ErrArg, -1},
		{"a page too many", func(p *api.Plan, d *api.Delta) { d.Pages = []api.Page{page, page} }, api.ErrArg, -1},
		{"a dirty page", func(p *api.Plan, d *api.Delta) { d.Pages[0].Dirty = true }, api.ErrArg, -1},
		{"other rights", func(p *api.Plan, d *api.Delta) { d.Pages[0].Rights = 3 }, api.ErrArg, -1},
	}
}

// TestCheckErrors: the example 4, every error, and of each two the first one.
func TestCheckErrors(t *testing.T) {
	for i, first := range faults() {
		for _, second := range faults()[i:] {
			p, d := examplePlan(), exampleDelta()
			second.turn(&p, &d)
			first.turn(&p, &d)
			// What was turned first may be turned back by the second one of the same field.
			if second.what != first.what && second.err == first.err {
				continue
			}
			want(t, "P18.1: Check: "+first.what+", "+second.what, delta.Check(p, d), first.err, first.place)
			b, err := delta.Put(p, d)
			want(t, "P18.1: Put: "+first.what+", "+second.what, err, first.err, first.place)
			if len(b) > 0 {
				t.Errorf("F1: Put: %x beside an error", b)
			}
		}
	}
	for _, turn := range []func(d *api.Delta){
		func(d *api.Delta) { d.Index, d.Pages = nil, nil }, func(d *api.Delta) { d.Index, d.Pages, d.State.Pages = []int{}, []api.Page{}, []api.Page{} },
		func(d *api.Delta) { d.BaseEpoch, d.State.Epoch = 0, 0 }, func(d *api.Delta) { d.BaseEpoch, d.State.Epoch = api.MaxEpoch-1, api.MaxEpoch-1 },
		func(d *api.Delta) { d.BaseSum = 0 }, func(d *api.Delta) { d.BaseSum = math.MaxUint32 }, func(d *api.Delta) { d.State.Frame = api.MaxFrames },
	} {
		d := exampleDelta()
		turn(&d)
		wantNone(t, "P18.1: Check", delta.Check(examplePlan(), d))
	}
}

// TestMakeErrors: those of valid.Rest, with their places; then the last epoch.
func TestMakeErrors(t *testing.T) {
	for _, x := range []struct {
		what  string
		turn  func(p *api.Plan, s *api.State)
		err   error
		place int
	}{
		{"no plan", func(p *api.Plan, s *api.State) { p.Procs = nil }, api.ErrPlan, -1}, {"no plan and no state", func(p *api.Plan, s *api.State) { p.Id, s.Frame = -1, -1 }, api.ErrPlan, -1}, {"another Id", func(p *api.Plan, s *api.State) { s.Id = 4 }, api.ErrState, 1},
		{"an epoch behind the last", func(p *api.Plan, s *api.State) { s.Epoch = api.MaxEpoch + 1 }, api.ErrState, 2}, {"no page", func(p *api.Plan, s *api.State) { s.Pages = nil }, api.ErrState, 3}, {"two pages", func(p *api.Plan, s *api.State) { s.Pages = make([]api.Page, 2) }, api.ErrState, 3},
		{"nobody ready at the last epoch", func(p *api.Plan, s *api.State) { s.Ready, s.Epoch = nil, api.MaxEpoch }, api.ErrState, 7}, {"other rights", func(p *api.Plan, s *api.State) { s.Pages[0].Rights = 6 }, api.ErrState, 13},
		{"a port out that holds something", func(p *api.Plan, s *api.State) {
			p.Ports, s.Ports = []api.PortPlan{{Kind: api.QueueOut, Size: 1, Depth: 1}}, []api.Port{{Msgs: []string{""}}}
		}, api.ErrState, 17},
		{"the last epoch", func(p *api.Plan, s *api.State) { s.Epoch = 2147483647 }, api.ErrEnd, -1}, {"the last epoch but one", func(p *api.Plan, s *api.State) { s.Epoch = 2147483646 }, nil, -1},
	} {
		p, s := examplePlan(), exampleState()
		x.turn(&p, &s)
		b, err := delta.Make(p, s, 1)
		want(t, "P18.1: Make: "+x.what, err, x.err, x.place)
		if err != nil && len(b) > 0 {
			t.Errorf("F1: Make: %s: %x beside an error", x.what, b)
		}
	}
}

// TestReadErrors: every error, and their order: what is wrong in several ways has the first one's.
func TestReadErrors(t *testing.T) {
	other, another := examplePlan(), examplePlan()
	other.Mobile, another.Id = false, 4
	full := encode(t, examplePlan(), exampleBase())
	patch := exampleBytes()[128:]
	twice := append(exampleBytes(), patch...)
	twice[10], twice[11] = 1, 0xc8-256+68
	for _, x := range []struct {
		what  string
		p     api.Plan
		b     []byte
		err   error
		place int
	}{
		{"no plan", api.Plan{}, nil, api.ErrPlan, -1}, {"no plan of a good image", api.Plan{Id: -1}, forged(), api.ErrPlan, -1}, {"nothing", examplePlan(), nil, api.ErrShort, -1}, {"too much", examplePlan(), make([]byte, 4097), api.ErrSize, -1},
		{"a wrong sum", examplePlan(), exampleBytes(), api.ErrSum, -1}, {"another name", other, forged(0, 'G', 5, 2), api.ErrTag, 0}, {"another version", other, forged(5, 2, 7, 3), api.ErrKind, 4}, {"another kind", other, forged(7, 3, 11, 0), api.ErrKind, 6},
		{"another length", other, forged(11, 0xc9, 20, 0), api.ErrLength, 8}, {"the tag 0", other, forged(20, 0), api.ErrTag, 20}, {"a record too long", other, forged(129, 1), api.ErrLength, 129}, {"a tag that can't stand there", other, forged(20, 9), api.ErrTag, 0},
		{"a full image's page", other, forged(128, 9), api.ErrTag, 7}, {"a delta that says it is full", other, forged(7, 1), api.ErrTag, 1}, {"a full image", other, full, api.ErrKind, 6}, {"another plan", other, forged(123, 2), api.ErrPlan, 12}, {"another plan's Id and sum", another, forged(), api.ErrPlan, 12},
		{"another sum", examplePlan(), forged(15, 0, 19, 4), api.ErrPlan, 12}, {"another Id", examplePlan(), forged(19, 4, 123, 2), api.ErrPlan, 16}, {"an Id above", examplePlan(), forged(16, 128), api.ErrPlan, 16},
		{"an event of 2", examplePlan(), forged(123, 2, 131, 1), api.ErrRange, 5}, {"the page 1", examplePlan(), forged(131, 1, 109, 9, 37, 9), api.ErrRange, 7}, {"the page 255", examplePlan(), forged(131, 255), api.ErrRange, 7}, {"a page twice", examplePlan(), sealed(twice), api.ErrRange, 8},
		{"Frame above", examplePlan(), forged(23, 128, 37, 9), api.ErrState, 2}, {"Epoch above", examplePlan(), forged(27, 128, 34, 128), api.ErrState, 2}, {"State 9", examplePlan(), forged(109, 9), api.ErrState, 4}, {"State 2", examplePlan(), forged(109, 2), api.ErrState, 5},
		{"Obj 1", examplePlan(), forged(112, 1), api.ErrState, 6}, {"Ready 1", examplePlan(), forged(116, 1), api.ErrState, 7}, {"the last epoch", examplePlan(), forged(27, 127, 28, 255, 29, 255, 30, 255), api.ErrEnd, -1},
		{"a base epoch less", examplePlan(), forged(37, 1), api.ErrBase, -1}, {"a base epoch above all", examplePlan(), forged(34, 128), api.ErrBase, -1}, {"as it is", examplePlan(), forged(), nil, -1},
	} {
		d, err := delta.Read(x.p, x.b)
		want(t, "P18.1: Read: "+x.what, err, x.err, x.place)
		if err != nil && !same(d, api.Delta{}) {
			t.Errorf("F1: Read: %s: %v beside an error", x.what, d)
		}
		base := exampleBase()
		base.Id = x.p.Id
		if x.err != nil {
			applyFails(t, x.what, x.p, base, exampleSum, x.b, x.err, x.place)
		}
	}
}

// TestApplyErrors: what the base breaks, then what the image does, then that they don't fit.
func TestApplyErrors(t *testing.T) {
	p := examplePlan()
	for _, x := range []struct {
		what  string
		turn  func(s *api.State)
		place int
	}{
		{"another Id", func(s *api.State) { s.Id = 4 }, 1}, {"Frame -1", func(s *api.State) { s.Frame = -1 }, 2}, {"no pages", func(s *api.State) { s.Pages = nil }, 3}, {"nobody ready", func(s *api.State) { s.Ready = nil }, 7},
		{"other rights", func(s *api.State) { s.Pages[0].Rights = 1 }, 13}, {"no state", func(s *api.State) { *s = api.State{} }, 1},
	} {
		base := exampleBase()
		x.turn(&base)
		applyFails(t, "over "+x.what, p, base, exampleSum, forged(), api.ErrState, x.place)
		applyFails(t, "of nothing over "+x.what, p, base, 0, nil, api.ErrState, x.place)
	}
	applyFails(t, "of no plan", api.Plan{}, api.State{}, 0, nil, api.ErrPlan, -1)
	older, dirty, last := exampleBase(), exampleBase(), exampleBase()
	older.Epoch, dirty.Pages[0].Dirty, last.Epoch = 1, true, api.MaxEpoch
	for _, base := range []api.State{older, dirty, last} {
		applyFails(t, "of nothing over what is no base", p, base, 0, nil, api.ErrShort, -1)
		applyFails(t, "of a full image over what is no base", p, base, 0, encode(t, p, base), api.ErrKind, 6)
		applyFails(t, "over what is no base", p, base, exampleSum, forged(), api.ErrBase, -1)
		applyFails(t, "over what is no base, with another sum", p, base, exampleSum+1, forged(), api.ErrBase, -1)
	}
	// A page that isn't in the delta may be the dirty one.
	applyFails(t, "of no page over a dirty one", p, dirty, exampleSum, makeDelta(t, p, exampleBase(), exampleSum), api.ErrBase, -1)
	for bit := range 32 {
		applyFails(t, "over another sum", p, exampleBase(), exampleSum^1<<bit, forged(), api.ErrBase, -1)
	}
	for _, number := range []int{0, 1, 3, 2147483646} {
		base := exampleBase()
		base.Epoch = number
		applyFails(t, "over another epoch", p, base, exampleSum, forged(), api.ErrBase, -1)
	}
}

// TestLastEpoch: a delta may lead to the last epoch, and none leads beyond it.
func TestLastEpoch(t *testing.T) {
	p, base, s := examplePlan(), exampleBase(), exampleState()
	base.Epoch, s.Epoch = api.MaxEpoch-1, api.MaxEpoch-1
	full := encode(t, p, base)
	b := makeDelta(t, p, s, lastSum(full))
	wanted := exampleMark()
	wanted.Epoch = api.MaxEpoch
	chainIs(t, p, wanted, lastSum(b), full, b)
}

// TestHurt: every burst is refused with ErrSum, and every strict beginning with some error.
func TestHurt(t *testing.T) {
	p, good := examplePlan(), forged()
	full := encode(t, p, exampleBase())
	for n := range good {
		if d, err := delta.Read(p, good[:n]); err == nil || !same(d, api.Delta{}) {
			t.Errorf("P18.5: a beginning of %d bytes is taken: %v", n, err)
		}
		if _, err := delta.Apply(p, exampleBase(), exampleSum, good[:n]); err == nil {
			t.Errorf("P18.5: a beginning of %d bytes is applied", n)
		}
	}
	r := rand.New(rand.NewSource(185))
	for bit := range 8 * len(good) {
		for _, mask := range []uint32{1, 1<<31 | 1, math.MaxUint32, r.Uint32() | 1, r.Uint32()<<8 | 1} {
			b := slices.Clone(good)
			for k := range 32 {
				if at := bit + k; mask>>k&1 == 1 && at < 8*len(b) {
					b[at/8] ^= 1 << (at % 8)
				}
			}
			d, err := delta.Read(p, b)
			want(t, "P18.5: Read of a burst", err, api.ErrSum, -1)
			applyFails(t, "of a burst", p, exampleBase(), exampleSum, b, api.ErrSum, -1)
			if !same(d, api.Delta{}) {
				t.Errorf("F1: Read: %v beside an error", d)
			}
			if mask == 1 {
				chainFails(t, "a burst", p, api.ErrSum, 1, full, b)
			}
		}
		if t.Failed() {
			t.Fatalf("bit %d", bit)
		}
	}
}
