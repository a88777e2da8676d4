package delta_test

import (
	"encoding/binary"
	"math/rand"
	"slices"
	"testing"

	"ferry/api"
	"ferry/delta"
	"ferry/epoch"
	"ferry/image"
	"ferry/plan"
	"ferry/valid"
	"ferry/wire"
)

// imageOf: a delta image ahead of its sum, written from behind to the front, so that each length is known when it is written. The delta may break any rule, but its numbers fit.
func imageOf(p api.Plan, d api.Delta) []byte {
	var b []byte
	s := d.State
	word := func(n int) []byte { return binary.BigEndian.AppendUint32(nil, uint32(n)) }
	record := func(tag byte, body []byte) {
		b = slices.Concat([]byte{tag, byte(len(body) >> 8), byte(len(body))}, body, b)
	}
	for i, q := range slices.Backward(d.Pages) {
		record(10, append([]byte{byte(d.Index[i])}, q.Data[:]...))
	}
	for _, q := range slices.Backward(s.Ports) {
		body := []byte{byte(q.Age), byte(len(q.Msgs))}
		for _, m := range q.Msgs {
			body = append(append(body, byte(len(m))), m...)
		}
		record(8, body)
	}
	record(7, eachByte(s.Sems))
	var events, timers []byte
	for _, up := range s.Up {
		events = append(events, flag(up))
	}
	record(6, events)
	for _, x := range s.Timers {
		timers = slices.Concat(timers, []byte{byte(x.Proc)}, word(x.Due))
	}
	record(5, timers)
	record(4, eachByte(s.Ready))
	for _, q := range slices.Backward(s.Procs) {
		var body []byte
		for k := 1; k < 16; k++ {
			body = append(body, word(int(q.Regs[k]))...)
		}
		record(3, slices.Concat(body, word(int(q.Pc)), eachByte([]int{q.State, q.Prio, q.Wait, q.Obj})))
	}
	record(2, append(word(d.BaseEpoch), word(int(d.BaseSum))...))
	record(1, append(word(s.Frame), word(s.Epoch)...))
	sum, err := plan.Sum(p)
	if err != nil {
		panic(err)
	}
	return slices.Concat([]byte("FERY\x00\x01\x00\x02"), word(len(b)+24), word(int(sum)), word(p.Id), b)
}

func flag(is bool) byte {
	if is {
		return 1
	}
	return 0
}

func eachByte(list []int) []byte {
	var b []byte
	for _, n := range list {
		b = append(b, byte(n))
	}
	return b
}

// checkOf: what Check is to answer of a plan in form, by the chapter's words.
func checkOf(p api.Plan, d api.Delta) (int, error) {
	if len(d.State.Pages) > 0 {
		return -1, api.ErrArg
	}
	whole := d.State
	for _, q := range p.Pages {
		whole.Pages = append(slices.Clip(whole.Pages), api.Page{Rights: q.Rights})
	}
	if err := valid.Rest(p, whole); err != nil {
		return api.Place(err), err
	}
	if d.State.Epoch == 2147483647 {
		return -1, api.ErrEnd
	}
	if d.BaseEpoch != d.State.Epoch {
		return -1, api.ErrBase
	}
	inForm := len(d.Index) == len(d.Pages)
	for i, n := range d.Index {
		inForm = inForm && n >= 0 && n < len(p.Pages) && (i == 0 || d.Index[i-1] < n) && d.Pages[i].Rights == p.Pages[n].Rights && !d.Pages[i].Dirty
	}
	if !inForm {
		return -1, api.ErrArg
	}
	return -1, nil
}

// turns: ways to put something of a delta otherwise, so that it still can be written.
func turns(r *rand.Rand) []func(d *api.Delta) {
	octet := func() int { return one(r, 0, 1, 2, 3, 4, 5, 7, 8, 254, 255) }
	word := func() int { return one(r, 0, 1, 2, 1010000, 1010001, 1<<31-1, 1<<31, 1<<32-1) }
	return []func(d *api.Delta){
		func(d *api.Delta) { d.BaseEpoch = word() }, func(d *api.Delta) { d.BaseEpoch = d.State.Epoch + 1 }, func(d *api.Delta) { d.BaseSum++ },
		func(d *api.Delta) { d.State.Frame = word() }, func(d *api.Delta) { d.State.Epoch = word() }, func(d *api.Delta) { d.State.Epoch = 1<<31 - 1; d.BaseEpoch = one(r, 1<<31-1, 0) },
		func(d *api.Delta) { d.State.Procs = append(d.State.Procs, api.Proc{})[r.Intn(2):] }, func(d *api.Delta) { pick(r, d.State.Procs).State = octet() }, func(d *api.Delta) { pick(r, d.State.Procs).Wait = octet() },
		func(d *api.Delta) { pick(r, d.State.Procs).Obj = octet() }, func(d *api.Delta) { *pick(r, d.State.Ready) = octet() }, func(d *api.Delta) { d.State.Ready = append(d.State.Ready, octet()) },
		func(d *api.Delta) { pick(r, d.State.Timers).Due = word() }, func(d *api.Delta) { d.State.Timers = append(d.State.Timers, api.Timer{Proc: octet(), Due: word()}) },
		func(d *api.Delta) { *pick(r, d.State.Up) = r.Intn(2) == 0 }, func(d *api.Delta) { *pick(r, d.State.Sems) = octet() }, func(d *api.Delta) { d.State.Sems = append(d.State.Sems, octet())[r.Intn(2):] },
		func(d *api.Delta) { pick(r, d.State.Ports).Age = octet() }, func(d *api.Delta) { pick(r, d.State.Ports).Msgs = slices.Repeat([]string{"x"}, r.Intn(10)) },
		func(d *api.Delta) { *pick(r, d.Index) = one(r, octet(), r.Intn(4), 31, 32) }, func(d *api.Delta) { pick(r, d.Pages).Data[r.Intn(64)]++ },
		func(d *api.Delta) { d.Index, d.Pages = append(d.Index, r.Intn(33)), append(d.Pages, api.Page{}) }, func(d *api.Delta) { slices.Reverse(d.Index) },
	}
}

// rawTurns: ways to put something of a delta otherwise that no image tells.
func rawTurns(r *rand.Rand) []func(d *api.Delta) {
	number := func() int { return one(r, -1, -1<<63, 1<<63-1, 256, 1<<32, 1<<32+1) }
	return []func(d *api.Delta){
		func(d *api.Delta) { d.State.Id++ }, func(d *api.Delta) { d.State.Frame = number() }, func(d *api.Delta) { d.BaseEpoch = number() }, func(d *api.Delta) { d.State.Pages = make([]api.Page, r.Intn(3)) },
		func(d *api.Delta) { pick(r, d.State.Procs).Regs[0]++ }, func(d *api.Delta) { pick(r, d.State.Procs).Prio = number() }, func(d *api.Delta) { *pick(r, d.Index) = number() },
		func(d *api.Delta) { d.Index = append(d.Index, 31) }, func(d *api.Delta) { d.Pages = append(d.Pages, api.Page{}) }, func(d *api.Delta) { d.Index = d.Index[:r.Intn(len(d.Index)+1)] },
		func(d *api.Delta) { pick(r, d.Pages).Dirty = true }, func(d *api.Delta) { pick(r, d.Pages).Rights ^= 1 }, func(d *api.Delta) { slices.Reverse(d.Pages) },
	}
}

// pick: one of the list's; where there is none, one that belongs to nothing.
func pick[T any](r *rand.Rand, list []T) *T {
	if len(list) == 0 {
		return new(T)
	}
	return &list[r.Intn(len(list))]
}

// TestThereAndBack: of any delta in form, against the model; memory.
func TestThereAndBack(t *testing.T) {
	r := rand.New(rand.NewSource(181))
	for range 3000 {
		p := roomy(somePlan(r))
		d := roomy(someDelta(t, r, p))
		look, lookPlan := kept(t, d), kept(t, p)
		wantNone(t, "P18.1: Check", delta.Check(p, d))
		b, err := delta.Put(p, d)
		wantNone(t, "P18.1: Put", err)
		if !slices.Equal(b, sealed(imageOf(p, d))) {
			t.Fatalf("P18.1: Put(%v, %v) = %x", p, d, b)
		}
		from := roomy(b)
		lookBytes := kept(t, from)
		got, err := delta.Read(p, from)
		wantNone(t, "P18.1: Read", err)
		if !same(got, d) {
			t.Fatalf("P18.1: Read = %v, want %v", got, d)
		}
		other, _ := delta.Read(p, from)
		again, _ := delta.Put(p, d)
		look("Check and Put")
		lookPlan("Check, Put and Read")
		lookBytes("Read")
		wantApart(t, "Put and Read", p, d, b, from, got, other, again)
		if t.Failed() {
			t.FailNow()
		}
	}
}

// TestCheckAgainstModel: any delta, in form or not.
func TestCheckAgainstModel(t *testing.T) {
	r := rand.New(rand.NewSource(182))
	seen := map[int]int{}
	for range 20000 {
		p := somePlan(r)
		d := someDelta(t, r, p)
		for range r.Intn(3) {
			one(r, append(turns(r), rawTurns(r)...)...)(&d)
		}
		place, wanted := checkOf(p, d)
		seen[api.Code(wanted)]++
		want(t, "P18.1: Check", delta.Check(p, d), wanted, place)
		b, err := delta.Put(p, d)
		want(t, "P18.1: Put", err, wanted, place)
		if err == nil && !slices.Equal(b, sealed(imageOf(p, d))) || err != nil && len(b) > 0 {
			t.Errorf("P18.1: Put = %x", b)
		}
		if t.Failed() {
			t.Fatalf("plan %v, delta %v", p, d)
		}
	}
	for _, code := range []int{0, 9, 10, 12, 13} {
		if seen[code] < 50 {
			t.Errorf("the error %d came only %d times", code, seen[code])
		}
	}
}

// readOf: what Read is to answer of the image of a delta whose state and pages are the plan's, but may break any rule.
func readOf(p api.Plan, d api.Delta) (int, error) {
	first := 7 + len(d.State.Procs) - 1 + len(d.State.Ports)
	for i, n := range d.Index {
		if n >= len(p.Pages) || i > 0 && n <= d.Index[i-1] {
			return first + i, api.ErrRange
		}
	}
	for i, n := range d.Index {
		d.Pages[i].Rights = p.Pages[n].Rights
	}
	return checkOf(p, d)
}

// TestReadAsksRules: what can be written but isn't in form is refused as Check does it, or for its pages' numbers.
func TestReadAsksRules(t *testing.T) {
	r := rand.New(rand.NewSource(183))
	seen := map[int]int{}
	for range 20000 {
		p := somePlan(r)
		d := someDelta(t, r, p)
		for range 1 + r.Intn(2) {
			one(r, turns(r)...)(&d)
		}
		b := sealed(imageOf(p, d))
		if len(b) > api.MaxImage {
			continue
		}
		got, err := delta.Read(p, b)
		place, wanted := readOf(p, d)
		want(t, "P18.1: Read", err, wanted, place)
		if seen[api.Code(err)]++; err == nil && !same(got, d) || err != nil && !same(got, api.Delta{}) {
			t.Errorf("P18.1: Read = %v", got)
		}
		if t.Failed() {
			t.Fatalf("plan %v, delta %v", p, d)
		}
	}
	for _, code := range []int{0, 4, 9, 10, 13} {
		if seen[code] < 50 {
			t.Errorf("the error %d came only %d times", code, seen[code])
		}
	}
}

// errorOf: what Read is to answer of bytes whose sum is right, up to what Fill says, by the chapter's words.
func errorOf(p api.Plan, b []byte) ([]wire.Rec, error) {
	recs, err := image.Records(b)
	if err != nil {
		return nil, err
	}
	sum, _ := plan.Sum(p)
	switch {
	case b[7] != 2:
		return nil, &api.At{Place: 6, Err: api.ErrKind}
	case binary.BigEndian.Uint32(b[12:]) != sum:
		return nil, &api.At{Place: 12, Err: api.ErrPlan}
	case int(binary.BigEndian.Uint32(b[16:])) != p.Id:
		return nil, &api.At{Place: 16, Err: api.ErrPlan}
	}
	_, err = image.Fill(recs)
	return recs, err
}

// TestReadTurned: images that were turned, cut and stretched, and sealed anew: what is taken is the image of what is read.
func TestReadTurned(t *testing.T) {
	r := rand.New(rand.NewSource(184))
	seen := map[int]int{}
	for range 30000 {
		p := somePlan(r)
		for len(p.Pages) > 3 || len(p.Procs) > 3 {
			p = somePlan(r)
		}
		b := imageOf(p, someDelta(t, r, p))
		for range 1 + r.Intn(2) {
			at := one(r, r.Intn(len(b)), r.Intn(43), len(b)-1-r.Intn(80))
			switch r.Intn(6) {
			case 0, 1, 2:
				b[at] = one(r, 0, 1, 2, 255, b[at]+1, b[at]-1, byte(r.Intn(12)))
			case 3:
				b = slices.Insert(b, max(at, 20), make([]byte, r.Intn(4))...)
			case 4:
				b = slices.Delete(b, max(at, 20), min(len(b), max(at, 20)+r.Intn(4)))
			case 5:
				b[7] = byte(1 + r.Intn(2))
			}
			if r.Intn(8) > 0 {
				binary.BigEndian.PutUint32(b[8:], uint32(len(b)+4))
			}
		}
		b = sealed(b)
		got, err := delta.Read(p, b)
		seen[api.Code(err)]++
		if _, wanted := errorOf(p, b); wanted != nil {
			want(t, "P18.1: Read", err, wanted, api.Place(wanted))
		}
		if err == nil {
			again, err := delta.Put(p, got)
			wantNone(t, "P18.1: Put of what was read", err)
			if !slices.Equal(again, b) || !slices.Equal(sealed(imageOf(p, got)), b) {
				t.Errorf("P18.1: Put(Read(b)) isn't b")
			}
		}
		if t.Failed() {
			t.Fatalf("bytes %x", b)
		}
	}
	for _, code := range []int{0, 1, 3, 4, 5, 7, 8, 9, 10} {
		if seen[code] < 30 {
			t.Errorf("the error %d came only %d times", code, seen[code])
		}
	}
}

// TestRow: a row of states, each written since the mark of the one ahead of it, comes to the mark of the last one; memory.
func TestRow(t *testing.T) {
	r := rand.New(rand.NewSource(186))
	for range 400 {
		p := roomy(somePlan(r))
		s := someState(t, r, p)
		s.Epoch = one(r, 0, 1, 65535, api.MaxEpoch-6)
		last := mark(t, p, s)
		images := [][]byte{encode(t, p, last)}
		for range 1 + r.Intn(5) {
			sum := lastSum(images[len(images)-1])
			base, next := roomy(last), roomy(writtenSince(t, r, p, last))
			looks := []func(string){kept(t, p), kept(t, base), kept(t, next)}
			b := roomy(makeDelta(t, p, next, sum))
			looks = append(looks, kept(t, b))
			got, err := delta.Apply(p, base, sum, b)
			wantNone(t, "P18.2: Apply", err)
			wantNone(t, "P18.2: what comes out is at rest", valid.Rest(p, got))
			last = mark(t, p, next)
			wantState(t, "P18.3: Apply of Make", got, last)
			applyFails(t, "over another sum", p, base, sum+1, b, api.ErrBase, -1)
			again, _ := delta.Apply(p, base, sum, b)
			other := makeDelta(t, p, next, sum)
			for _, look := range looks {
				look("Make and Apply")
			}
			wantApart(t, "Make and Apply", p, base, next, b, got, again, other)
			images = append(images, b)
		}
		images = roomy(images)
		look := kept(t, images)
		chainIs(t, p, last, lastSum(images[len(images)-1]), images...)
		got, _, _ := delta.Chain(p, images)
		again, _, _ := delta.Chain(p, images)
		b, _ := delta.Compact(p, images)
		other, _ := delta.Compact(p, images)
		look("Chain and Compact")
		wantApart(t, "Chain and Compact", p, images, got, again, b, other)
		if len(images) > 2 {
			at := 1 + r.Intn(len(images)-2)
			chainFails(t, "one left out", p, api.ErrBase, at, slices.Delete(slices.Clone(images), at, at+1)...)
		}
		if t.Failed() {
			t.Fatalf("plan %v", p)
		}
	}
}

func mark(t *testing.T, p api.Plan, s api.State) api.State {
	t.Helper()
	m, err := epoch.Mark(p, s)
	wantNone(t, "epoch.Mark", err)
	return m
}

// TestBound: no delta image is longer than the bound, and one comes to that.
func TestBound(t *testing.T) {
	r := rand.New(rand.NewSource(187))
	for n := range 1000 {
		p := somePlan(r)
		if n == 0 {
			p = great()
		}
		bound, err := plan.Bound(p)
		wantNone(t, "plan.Bound", err)
		if n == 0 && bound != api.MaxImage {
			t.Fatalf("the great plan's bound is %d", bound)
		}
		s := fullest(p)
		s.Epoch = api.MaxEpoch - 1
		if b := makeDelta(t, p, s, 1<<32-1); len(b) != bound {
			t.Errorf("P18.1: the fullest delta has %d bytes, the bound is %d", len(b), bound)
		}
		b, err := delta.Put(p, someDelta(t, r, p))
		wantNone(t, "P18.1: Put", err)
		if len(b) > bound {
			t.Errorf("P18.1: a delta has %d bytes, the bound is %d", len(b), bound)
		}
	}
}
