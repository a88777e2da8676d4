package hand_test

import (
	"errors"
	"fmt"
	"math"
	"math/rand"
	"reflect"
	"slices"
	"strings"
	"testing"

	"ferry/api"
	"ferry/chunk"
	"ferry/delta"
	"ferry/epoch"
	"ferry/hand"
	"ferry/image"
	"ferry/plan"
	"ferry/valid"
	"ferry/xfer"
)

// want looks for the error at that place, or without one where the place is -1.
func want(t *testing.T, what string, err, wanted error, place int) {
	t.Helper()
	var at *api.At
	if api.Code(err) != api.Code(wanted) || api.Place(err) != place || errors.As(err, &at) != (place >= 0) {
		t.Errorf("%s: error %v at %d, want %v at %d", what, err, api.Place(err), wanted, place)
	}
}

// wantBare looks whether err is just that error (or none), without a place.
func wantBare(t *testing.T, what string, err, wanted error) {
	t.Helper()
	want(t, what, err, wanted, -1)
}

// same: field by field, list by list; nil and empty lists are one.
func same(a, b any) bool { return sameValue(reflect.ValueOf(a), reflect.ValueOf(b)) }

func sameValue(a, b reflect.Value) bool {
	switch a.Kind() {
	case reflect.Struct:
		for i := range a.NumField() {
			if !sameValue(a.Field(i), b.Field(i)) {
				return false
			}
		}
		return true
	case reflect.Slice:
		if a.Len() != b.Len() {
			return false
		}
		for i := range a.Len() {
			if !sameValue(a.Index(i), b.Index(i)) {
				return false
			}
		}
		return true
	}
	return a.Equal(b)
}

func wantSame(t *testing.T, what string, got, want any) {
	t.Helper()
	if !same(got, want) {
		t.Errorf("%s: %.900s\nwant %.900s", what, fmt.Sprintf("%+v", got), fmt.Sprintf("%+v", want))
	}
}

// examplePlan: one page, one process.
func examplePlan() api.Plan {
	return api.Plan{Id: 3, Mobile: true, Pages: []api.PagePlan{{Rights: 7}}, Procs: []api.ProcPlan{{Prio: 5, Auto: true}}}
}

// exampleState: a state that has run so many frames since its checkpoint.
func exampleState(frame, epoch int) api.State {
	s := api.State{Id: 3, Frame: frame, Epoch: epoch, Procs: []api.Proc{{State: api.Ready, Prio: 5}}, Ready: []int{0}, Pages: []api.Page{{Rights: 7, Dirty: true}}}
	s.Procs[0].Regs[4], s.Pages[0].Data[1] = uint32(frame), byte(frame)
	return s
}

func exampleXid() api.Xid { return api.Xid{Boot: 1, Peer: 1, Num: 2} }

// badPlan: one that plan.Check refuses.
func badPlan() api.Plan {
	p := examplePlan()
	p.Procs = nil
	return p
}

func mark(t *testing.T, p api.Plan, s api.State) api.State {
	t.Helper()
	m, err := epoch.Mark(p, s)
	wantBare(t, "epoch.Mark", err, nil)
	return m
}

func encode(t *testing.T, p api.Plan, s api.State) []byte {
	t.Helper()
	b, err := image.Encode(p, s)
	wantBare(t, "image.Encode", err, nil)
	return b
}

func makeDelta(t *testing.T, p api.Plan, s api.State, sum uint32) []byte {
	t.Helper()
	b, err := delta.Make(p, s, sum)
	wantBare(t, "delta.Make", err, nil)
	return b
}

// lastSum: what the last four bytes lay down, the lowest first.
func lastSum(b []byte) uint32 {
	b = b[len(b)-4:]
	return uint32(b[0]) + uint32(b[1])*256 + uint32(b[2])*65536 + uint32(b[3])*16777216
}

func cut(t *testing.T, part int, x api.Xid, stage int, image []byte) []api.Note {
	t.Helper()
	l, err := chunk.Cut(part, x, stage, image)
	wantBare(t, "chunk.Cut", err, nil)
	return l
}

func start(t *testing.T, part int, x api.Xid, stage int, image []byte) xfer.Send {
	t.Helper()
	s, err := xfer.Start(part, x, stage, image)
	wantBare(t, "xfer.Start", err, nil)
	return s
}

// edited: the value with a change.
func edited[T any](v T, edit func(v *T)) T {
	edit(&v)
	return v
}

// edges: numbers at and beside all bounds.
func edges() []int {
	return []int{math.MinInt, -1, 0, 1, 2, 3, 6, 7, 8, 9, 63, 64, 65, 2147483646, 2147483647, 2147483648, 4294967297, math.MaxInt}
}

func isNumber(n int) bool { return n >= 1 && n <= 2147483647 }

// isName: may a note bear these, as layer 20 says?
func isName(part int, x api.Xid) bool {
	return part >= 0 && part <= 7 && isNumber(x.Boot) && isNumber(x.Peer) && isNumber(x.Num)
}

func one[T any](r *rand.Rand, of ...T) T { return of[r.Intn(len(of))] }

// seldom: once in so many times.
func seldom(r *rand.Rand, in int) bool { return r.Intn(in) == 0 }

func coin(r *rand.Rand) bool { return r.Intn(2) == 0 }

func someBytes(r *rand.Rand, n int) []byte {
	b := make([]byte, n)
	r.Read(b)
	return b
}

// somePlan: any plan in form that isn't too great for many tries.
func somePlan(r *rand.Rand) api.Plan {
	for {
		if p := somePlanAtAll(r); plan.Check(p) == nil {
			return p
		}
	}
}

func somePlanAtAll(r *rand.Rand) api.Plan {
	p := api.Plan{Id: one(r, 0, 1, 7, 256, 2147483647), Mobile: coin(r), Events: r.Intn(3)}
	for range one(r, 1, 1, 1, 1, 2, 2, 2, 3, 3, 3, 3, 32) {
		p.Pages = append(p.Pages, api.PagePlan{Rights: r.Intn(8), Init: string(someBytes(r, r.Intn(65)))})
	}
	for range one(r, 1, 1, 1, 2, 2, 8) {
		p.Procs = append(p.Procs, api.ProcPlan{Entry: 4 * r.Intn(16), Prio: one(r, 0, 1, 255), Auto: coin(r)})
	}
	for range r.Intn(4) {
		q := api.PortPlan{Kind: 1 + r.Intn(4), Size: one(r, 1, 4, 32), Depth: 1}
		if q.Kind == api.QueueIn || q.Kind == api.QueueOut {
			q.Depth = 1 + r.Intn(8)
		}
		p.Ports = append(p.Ports, q)
	}
	for range r.Intn(3) {
		p.Sems = append(p.Sems, one(r, 0, 1, 255))
	}
	return p
}

// someState: any state at rest of the plan, of no great epoch.
func someState(t *testing.T, r *rand.Rand, p api.Plan) api.State {
	t.Helper()
	s := api.State{Id: p.Id, Frame: one(r, 0, 1, 258, 2147483647), Epoch: one(r, 0, 1, 65539)}
	for range p.Events {
		s.Up = append(s.Up, coin(r))
	}
	for range p.Sems {
		s.Sems = append(s.Sems, one(r, 0, 0, 1, 255))
	}
	for _, q := range p.Ports {
		s.Ports = append(s.Ports, somePort(r, q))
	}
	for _, q := range p.Pages {
		page := api.Page{Rights: q.Rights, Dirty: coin(r)}
		copy(page.Data[:], someBytes(r, r.Intn(65)))
		s.Pages = append(s.Pages, page)
	}
	for i := range p.Procs {
		q := api.Proc{Pc: r.Uint32(), State: r.Intn(4), Prio: one(r, 0, 255)}
		q.Regs[1+r.Intn(15)] = r.Uint32()
		switch q.State {
		case api.Ready:
			s.Ready = append(s.Ready, i)
		case api.Waiting:
			q.Wait = api.WaitSleep
			s.Timers = append(s.Timers, api.Timer{Proc: i, Due: one(r, 0, 1, 257, 1010000)})
		}
		s.Procs = append(s.Procs, q)
	}
	r.Shuffle(len(s.Ready), func(i, k int) { s.Ready[i], s.Ready[k] = s.Ready[k], s.Ready[i] })
	slices.SortFunc(s.Timers, func(a, b api.Timer) int { return (a.Due-b.Due)*100 + a.Proc - b.Proc })
	wantBare(t, "a random state is at rest", valid.Rest(p, s), nil)
	return s
}

func somePort(r *rand.Rand, p api.PortPlan) api.Port {
	var q api.Port
	if p.Kind == api.SampleOut || p.Kind == api.QueueOut {
		return q
	}
	for range one(r, 0, p.Depth, r.Intn(p.Depth+1)) {
		q.Msgs = append(q.Msgs, string(someBytes(r, one(r, 0, p.Size))))
	}
	if p.Kind == api.SampleIn && len(q.Msgs) > 0 {
		q.Age = one(r, 0, 1, 255)
	}
	return q
}

// someMark: the mark of any state.
func someMark(t *testing.T, r *rand.Rand, p api.Plan) api.State {
	t.Helper()
	return mark(t, p, someState(t, r, p))
}

// writtenSince: any state that may have come of the base.
func writtenSince(t *testing.T, r *rand.Rand, p api.Plan, base api.State) api.State {
	t.Helper()
	s := someState(t, r, p)
	s.Epoch = base.Epoch
	for i := range s.Pages {
		if !s.Pages[i].Dirty {
			s.Pages[i].Data = base.Pages[i].Data
		}
	}
	return s
}

// broken: the state, of which something isn't as the plan asks.
func broken(r *rand.Rand, s api.State) api.State {
	s = valid.Copy(s)
	switch r.Intn(5) {
	case 0:
		s.Id++
	case 1:
		s.Frame = -1
	case 2:
		s.Procs[0].Regs[0] = 1
	case 3:
		s.Pages = s.Pages[1:]
	case 4:
		s.Sems = append(s.Sems, 256)
	}
	return s
}

// someXid: of few numbers, so that two of them often are alike.
func someXid(r *rand.Rand) api.Xid {
	return api.Xid{Boot: one(r, 1, 1, 2, 2147483647), Peer: one(r, 1, 1, 2, 2147483647), Num: one(r, 2, 3, 4, 2147483647)}
}

// turned: the bytes with one bit turned.
func turned(r *rand.Rand, b []byte) []byte {
	b = slices.Clone(b)
	b[r.Intn(len(b))] ^= 1 << r.Intn(8)
	return b
}

// someText: so many bytes of one letter.
func someText(size int) string { return strings.Repeat("x", size) }

// roomy: the value, as new memory, all of whose lists have spare room.
func roomy[T any](v T) T { return copied(reflect.ValueOf(v), 3).Interface().(T) }

// copied: the value as new memory, with so many spare elements behind each list, which are like its first one.
func copied(v reflect.Value, spare int) reflect.Value {
	fresh := reflect.New(v.Type()).Elem()
	switch v.Kind() {
	case reflect.Struct:
		for i := range v.NumField() {
			fresh.Field(i).Set(copied(v.Field(i), spare))
		}
	case reflect.Slice:
		list := reflect.MakeSlice(v.Type(), v.Len()+spare, v.Len()+spare)
		for i := range list.Len() {
			if v.Len() > 0 {
				list.Index(i).Set(copied(v.Index(i%v.Len()), spare))
			}
		}
		fresh.Set(list.Slice(0, v.Len()))
	default:
		fresh.Set(v)
	}
	return fresh
}

// entire: the value with the spare room of its lists, as new memory.
func entire(v reflect.Value) reflect.Value {
	fresh := reflect.New(v.Type()).Elem()
	switch v.Kind() {
	case reflect.Struct:
		for i := range v.NumField() {
			fresh.Field(i).Set(entire(v.Field(i)))
		}
	case reflect.Slice:
		all := v.Slice(0, v.Cap())
		fresh.Set(reflect.MakeSlice(v.Type(), v.Cap(), v.Cap()))
		for i := range v.Cap() {
			fresh.Index(i).Set(entire(all.Index(i)))
		}
	default:
		fresh.Set(v)
	}
	return fresh
}

// kept gives a look whether the values, spare room included, are what they were.
func kept(t *testing.T, values ...any) func(what string) {
	var was []any
	for _, v := range values {
		was = append(was, entire(reflect.ValueOf(v)).Interface())
	}
	return func(what string) {
		t.Helper()
		for i, v := range values {
			if !reflect.DeepEqual(entire(reflect.ValueOf(v)).Interface(), was[i]) {
				t.Errorf("P23.6: %s: what was handed in has changed", what)
			}
		}
	}
}

// room is the memory of a list, spare room included.
type room struct{ from, to uintptr }

// rooms: of all lists of a value, and of those in them.
func rooms(v reflect.Value) []room {
	var all []room
	switch v.Kind() {
	case reflect.Struct:
		for i := range v.NumField() {
			all = append(all, rooms(v.Field(i))...)
		}
	case reflect.Slice:
		if v.Cap() > 0 {
			all = append(all, room{v.Pointer(), v.Pointer() + uintptr(v.Cap())*v.Type().Elem().Size()})
		}
		if k := v.Type().Elem().Kind(); k == reflect.Struct || k == reflect.Slice {
			for i := range v.Len() {
				all = append(all, rooms(v.Index(i))...)
			}
		}
	}
	return all
}

// wantApart looks whether no two lists of all these values share memory.
func wantApart(t *testing.T, what string, values ...any) {
	t.Helper()
	var all []room
	for _, v := range values {
		all = append(all, rooms(reflect.ValueOf(v))...)
	}
	slices.SortFunc(all, func(a, b room) int {
		if a.from < b.from {
			return -1
		}
		return 1
	})
	for i := 1; i < len(all); i++ {
		if all[i].from < all[i-1].to {
			t.Fatalf("P23.6: %s: two lists share memory", what)
		}
	}
}

// ask, hear, bound, catch, turn: the calls, each with a look at memory: what is handed in stays, and what comes out is new.
func ask(t *testing.T, p api.Plan, s hand.Source) (hand.Source, error) {
	t.Helper()
	p, s = roomy(p), roomy(s)
	look := kept(t, p, s)
	next, err := hand.Ask(p, s)
	look("Ask")
	wantApart(t, "Ask", p, s, next)
	return next, err
}

func hear(t *testing.T, p api.Plan, s hand.Source, n api.Note, own, peer int) (hand.Source, bool, error) {
	t.Helper()
	p, s = roomy(p), roomy(s)
	look := kept(t, p, s)
	next, counts, err := hand.Hear(p, s, n, own, peer)
	look("Hear")
	wantApart(t, "Hear", p, s, next)
	return next, counts, err
}

func bound(t *testing.T, p api.Plan, s hand.Source, a hand.At) (hand.Source, hand.Deed, error) {
	t.Helper()
	p, s, a = roomy(p), roomy(s), roomy(a)
	look := kept(t, p, s, a)
	next, d, err := hand.Bound(p, s, a)
	look("Bound")
	wantApart(t, "Bound", p, s, a, next, d)
	return next, d, err
}

func catch(t *testing.T, p api.Plan, part int, s hand.Spare, n api.Note, own int, mine bool) (hand.Spare, []api.Note, error) {
	t.Helper()
	p, s = roomy(p), roomy(s)
	look := kept(t, p, s)
	next, l, err := hand.Catch(p, part, s, n, own, mine)
	look("Catch")
	wantApart(t, "Catch", p, s, next, l)
	return next, l, err
}

func turn(t *testing.T, p api.Plan, part int, s hand.Spare, a hand.At) (hand.Spare, hand.Deed, error) {
	t.Helper()
	p, s, a = roomy(p), roomy(s), roomy(a)
	look := kept(t, p, s, a)
	next, d, err := hand.Turn(p, part, s, a)
	look("Turn")
	wantApart(t, "Turn", p, s, a, next, d)
	return next, d, err
}
