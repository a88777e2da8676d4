package delta_test

import (
	"encoding/binary"
	"errors"
	"hash/crc32"
	"math/rand"
	"reflect"
	"slices"
	"strings"
	"testing"

	"ferry/api"
	"ferry/delta"
	"ferry/image"
	"ferry/plan"
	"ferry/valid"
	"ferry/wire"
)

// want looks for the error at that place, or without one where the place is -1. What the place is wrapped about tells none.
func want(t *testing.T, what string, err, wanted error, place int) {
	t.Helper()
	var at, inner *api.At
	told := errors.As(err, &at)
	if api.Code(err) != api.Code(wanted) || api.Place(err) != place || told != (place >= 0) {
		t.Errorf("%s: error %v at %d, want %v at %d", what, err, api.Place(err), wanted, place)
	}
	if told && errors.As(at.Err, &inner) {
		t.Errorf("F1: %s: a place within a place", what)
	}
}

// wantNone looks whether there is no error.
func wantNone(t *testing.T, what string, err error) {
	t.Helper()
	want(t, what, err, nil, -1)
}

func wantState(t *testing.T, what string, got, want api.State) {
	t.Helper()
	if !valid.Same(got, want) {
		t.Errorf("%s: %v, want %v", what, got, want)
	}
}

// same: field by field; nil and empty lists are one.
func same(a, b api.Delta) bool {
	return a.BaseEpoch == b.BaseEpoch && a.BaseSum == b.BaseSum && valid.Same(a.State, b.State) && slices.Equal(a.Index, b.Index) && slices.Equal(a.Pages, b.Pages)
}

// examplePlan, exampleState, exampleBase, exampleMark, exampleDelta: those of the chapter's examples.
func examplePlan() api.Plan {
	return api.Plan{Id: 3, Mobile: true, Pages: []api.PagePlan{{Rights: 7}}, Procs: []api.ProcPlan{{Prio: 5, Auto: true}}, Events: 1, Sems: []int{2}}
}

func exampleState() api.State {
	s := api.State{Id: 3, Frame: 4, Epoch: 2, Procs: []api.Proc{{Pc: 8, State: api.Ready, Prio: 5}}, Ready: []int{0}, Up: []bool{true}, Sems: []int{2}, Pages: []api.Page{{Rights: 7, Dirty: true}}}
	s.Procs[0].Regs[1], s.Pages[0].Data[0] = 7, 9
	return s
}

func exampleBase() api.State {
	s := exampleState()
	s.Frame, s.Pages = 3, []api.Page{{Rights: 7}}
	return s
}

func exampleMark() api.State {
	s := exampleState()
	s.Epoch, s.Pages[0].Dirty = 3, false
	return s
}

func exampleDelta() api.Delta {
	s := exampleState()
	pages := s.Pages
	s.Pages, pages[0].Dirty = nil, false
	return api.Delta{BaseEpoch: 2, BaseSum: exampleSum, State: s, Index: []int{0}, Pages: pages}
}

// exampleSum: that of the base's image.
const exampleSum = 0x92b1cfa7

// exampleBytes: those of the delta image ahead of its sum.
func exampleBytes() []byte {
	text := "46455259 0001 0002 000000c8 c63b2ccd 00000003 01 0008 00000004 00000002 02 0008 00000002 92b1cfa7" +
		"03 0044 00000007" + strings.Repeat("00", 56) + "00000008 01 05 00 00" +
		"04 0001 00 05 0000 06 0001 01 07 0001 02 0a 0041 00 09" + strings.Repeat("00", 63)
	b, err := wire.Unhex(strings.ReplaceAll(text, " ", ""))
	if err != nil {
		panic(err)
	}
	return b
}

// sealed: the bytes and their sum, by the library.
func sealed(b []byte) []byte {
	return binary.LittleEndian.AppendUint32(slices.Clone(b), crc32.ChecksumIEEE(b))
}

// lastSum: what an image's last four bytes lay down, by the library.
func lastSum(b []byte) uint32 { return binary.LittleEndian.Uint32(b[len(b)-4:]) }

// forged: the example's image with bytes put otherwise (a place, a byte, ..) and the sum of what comes out.
func forged(pairs ...int) []byte {
	b := exampleBytes()
	for i := 0; i < len(pairs); i += 2 {
		b[pairs[i]] = byte(pairs[i+1])
	}
	return sealed(b)
}

func encode(t *testing.T, p api.Plan, s api.State) []byte {
	t.Helper()
	b, err := image.Encode(p, s)
	wantNone(t, "image.Encode", err)
	return b
}

func makeDelta(t *testing.T, p api.Plan, s api.State, sum uint32) []byte {
	t.Helper()
	b, err := delta.Make(p, s, sum)
	wantNone(t, "P18.1: Make", err)
	return b
}

// great: a plan whose greatest delta image has just as many bytes as there may be.
func great() api.Plan {
	p := api.Plan{
		Id: 2147483647, Mobile: true,
		Pages:  slices.Repeat([]api.PagePlan{{Rights: 7, Init: "x"}}, 32),
		Procs:  slices.Repeat([]api.ProcPlan{{Entry: 2044, Prio: 255, Auto: true}}, 8),
		Ports:  slices.Repeat([]api.PortPlan{{Kind: api.QueueIn, Size: 32, Depth: 8}}, 4),
		Events: 8, Sems: slices.Repeat([]int{255}, 8),
	}
	// What is left of 4096 behind 3934 bytes.
	p.Ports = append(p.Ports, api.PortPlan{Kind: api.QueueIn, Size: 31, Depth: 4}, api.PortPlan{Kind: api.SampleIn, Size: 23, Depth: 1})
	return p
}

// fullest: a state at rest of the plan that has the most of all: whoever sleeps has a timer, and each port in is full.
func fullest(p api.Plan) api.State {
	s := api.State{Id: p.Id, Frame: api.MaxFrames, Epoch: api.MaxEpoch, Up: slices.Repeat([]bool{true}, p.Events)}
	for i, q := range p.Procs {
		s.Procs = append(s.Procs, api.Proc{Pc: 0xFFFFFFFF, State: api.Waiting, Wait: api.WaitSleep, Prio: q.Prio})
		s.Timers = append(s.Timers, api.Timer{Proc: i, Due: 1010000})
	}
	for _, q := range p.Ports {
		var x api.Port
		if q.Kind == api.SampleIn || q.Kind == api.QueueIn {
			x.Msgs = slices.Repeat([]string{strings.Repeat("\xff", q.Size)}, q.Depth)
		}
		s.Ports = append(s.Ports, x)
	}
	for _, q := range p.Pages {
		s.Pages = append(s.Pages, api.Page{Rights: q.Rights, Dirty: true})
	}
	s.Sems = slices.Repeat([]int{255}, len(p.Sems))
	return s
}

func one[T any](r *rand.Rand, of ...T) T { return of[r.Intn(len(of))] }

func someBytes(r *rand.Rand, n int) []byte {
	b := make([]byte, n)
	r.Read(b)
	return b
}

// somePlan: any plan in form.
func somePlan(r *rand.Rand) api.Plan {
	for {
		if p := somePlanAtAll(r); plan.Check(p) == nil {
			return p
		}
	}
}

func somePlanAtAll(r *rand.Rand) api.Plan {
	p := api.Plan{Id: one(r, 0, 1, 7, 256, 1<<16, 1<<24+5, 2147483647), Mobile: r.Intn(2) == 0, Events: r.Intn(9)}
	for range one(r, 1, 1, 2, 3, 32) {
		p.Pages = append(p.Pages, api.PagePlan{Rights: r.Intn(8), Init: string(someBytes(r, r.Intn(65)))})
	}
	for range 1 + r.Intn(8) {
		p.Procs = append(p.Procs, api.ProcPlan{Entry: 4 * r.Intn(16), Prio: one(r, 0, 1, 255), Auto: r.Intn(2) == 0})
	}
	for range r.Intn(9) {
		q := api.PortPlan{Kind: 1 + r.Intn(4), Size: one(r, 1, 4, 32), Depth: 1}
		if q.Kind == api.QueueIn || q.Kind == api.QueueOut {
			q.Depth = 1 + r.Intn(8)
		}
		p.Ports = append(p.Ports, q)
	}
	for range r.Intn(9) {
		p.Sems = append(p.Sems, one(r, 0, 1, 255))
	}
	return p
}

// someState: any state at rest of the plan.
func someState(t *testing.T, r *rand.Rand, p api.Plan) api.State {
	t.Helper()
	s := api.State{Id: p.Id, Frame: one(r, 0, 1, 258, 2147483646, 2147483647), Epoch: one(r, 0, 1, 65539, 2147483646, 2147483647)}
	for range p.Events {
		s.Up = append(s.Up, r.Intn(2) == 0)
	}
	for range p.Sems {
		s.Sems = append(s.Sems, one(r, 0, 0, 1, 254, 255))
	}
	for _, q := range p.Ports {
		s.Ports = append(s.Ports, somePort(r, q))
	}
	for _, q := range p.Pages {
		page := api.Page{Rights: q.Rights, Dirty: r.Intn(2) == 0}
		copy(page.Data[:], someBytes(r, r.Intn(65)))
		s.Pages = append(s.Pages, page)
	}
	for i := range p.Procs {
		q := someProc(r, p, s)
		s.Procs = append(s.Procs, q)
		if q.State == api.Ready {
			s.Ready = append(s.Ready, i)
		}
		if q.Wait == api.WaitSleep || q.Wait != 0 && r.Intn(2) == 0 {
			s.Timers = append(s.Timers, api.Timer{Proc: i, Due: one(r, 0, 1, 1, 257, 65537, 1009999, 1010000)})
		}
	}
	r.Shuffle(len(s.Ready), func(i, k int) { s.Ready[i], s.Ready[k] = s.Ready[k], s.Ready[i] })
	slices.SortFunc(s.Timers, func(a, b api.Timer) int { return (a.Due-b.Due)*100 + a.Proc - b.Proc })
	wantNone(t, "a random state is at rest", valid.Rest(p, s))
	return s
}

func somePort(r *rand.Rand, p api.PortPlan) api.Port {
	var q api.Port
	if p.Kind == api.SampleOut || p.Kind == api.QueueOut {
		return q
	}
	for range one(r, 0, p.Depth, r.Intn(p.Depth+1)) {
		q.Msgs = append(q.Msgs, string(someBytes(r, one(r, 0, p.Size, r.Intn(p.Size+1)))))
	}
	if p.Kind == api.SampleIn && len(q.Msgs) > 0 {
		q.Age = one(r, 0, 1, 254, 255)
	}
	return q
}

// someProc: a process that may stand in the state, whose things are all laid out.
func someProc(r *rand.Rand, p api.Plan, s api.State) api.Proc {
	q := api.Proc{Pc: r.Uint32(), State: r.Intn(4), Prio: one(r, 0, 1, 2, 255)}
	for k := 1; k < 16; k++ {
		q.Regs[k] = r.Uint32()
	}
	if q.State != api.Waiting {
		return q
	}
	waits := [][2]int{{api.WaitSleep, 0}}
	for i, up := range s.Up {
		if !up {
			waits = append(waits, [2]int{api.WaitEvent, i})
		}
	}
	for i, count := range s.Sems {
		if count == 0 {
			waits = append(waits, [2]int{api.WaitSem, i})
		}
	}
	for i, x := range p.Ports {
		if x.Kind == api.QueueIn && len(s.Ports[i].Msgs) == 0 {
			waits = append(waits, [2]int{api.WaitPort, i})
		}
	}
	w := one(r, waits...)
	q.Wait, q.Obj = w[0], w[1]
	return q
}

// roomy: the value, as new memory, all of whose lists have spare room.
func roomy[T any](v T) T { return copied(reflect.ValueOf(v), 3).Interface().(T) }

// copied: the value as new memory, with so many spare elements behind each list, which are like its first one.
func copied(v reflect.Value, spare int) reflect.Value {
	fresh := reflect.New(v.Type()).Elem()
	switch v.Kind() {
	case reflect.Struct:
		for i := range v.NumField() {
			fresh.Field(i).Set(copied(v.Field(i), spare))
		}
	case reflect.Slice:
		list := reflect.MakeSlice(v.Type(), v.Len()+spare, v.Len()+spare)
		for i := range list.Len() {
			if v.Len() > 0 {
				list.Index(i).Set(copied(v.Index(i%v.Len()), spare))
			}
		}
		fresh.Set(list.Slice(0, v.Len()))
	default:
		fresh.Set(v)
	}
	return fresh
}

// entire: the value with the spare room of its lists, as new memory.
func entire(v reflect.Value) reflect.Value {
	fresh := reflect.New(v.Type()).Elem()
	switch v.Kind() {
	case reflect.Struct:
		for i := range v.NumField() {
			fresh.Field(i).Set(entire(v.Field(i)))
		}
	case reflect.Slice:
		all := v.Slice(0, v.Cap())
		fresh.Set(reflect.MakeSlice(v.Type(), v.Cap(), v.Cap()))
		for i := range v.Cap() {
			fresh.Index(i).Set(entire(all.Index(i)))
		}
	default:
		fresh.Set(v)
	}
	return fresh
}

// kept gives a look whether the value, spare room included, is what it was.
func kept[T any](t *testing.T, v T) func(what string) {
	was := entire(reflect.ValueOf(v)).Interface()
	return func(what string) {
		t.Helper()
		if !reflect.DeepEqual(entire(reflect.ValueOf(v)).Interface(), was) {
			t.Errorf("P18.6: %s: what was handed in has changed", what)
		}
	}
}

// room is the memory of a list, spare room included.
type room struct{ from, to uintptr }

// rooms: of all lists of a value, and of those in them.
func rooms(v reflect.Value) []room {
	var all []room
	switch v.Kind() {
	case reflect.Struct:
		for i := range v.NumField() {
			all = append(all, rooms(v.Field(i))...)
		}
	case reflect.Slice:
		if v.Cap() > 0 {
			all = append(all, room{v.Pointer(), v.Pointer() + uintptr(v.Cap())*v.Type().Elem().Size()})
		}
		if k := v.Type().Elem().Kind(); k == reflect.Struct || k == reflect.Slice {
			for i := range v.Len() {
				all = append(all, rooms(v.Index(i))...)
			}
		}
	}
	return all
}

// wantApart looks whether no two lists of all these values share memory.
func wantApart(t *testing.T, what string, values ...any) {
	t.Helper()
	var all []room
	for _, v := range values {
		all = append(all, rooms(reflect.ValueOf(v))...)
	}
	slices.SortFunc(all, func(a, b room) int {
		if a.from < b.from {
			return -1
		}
		return 1
	})
	for i := 1; i < len(all); i++ {
		if all[i].from < all[i-1].to {
			t.Fatalf("P18.6: %s: two lists share memory", what)
		}
	}
}

// someDelta: any delta in form of the plan.
func someDelta(t *testing.T, r *rand.Rand, p api.Plan) api.Delta {
	t.Helper()
	s := someState(t, r, p)
	s.Epoch = min(s.Epoch, api.MaxEpoch-1)
	d := api.Delta{BaseEpoch: s.Epoch, BaseSum: one(r, 0, 1, 1<<31, 1<<32-1, r.Uint32())}
	for i, q := range s.Pages {
		if q.Dirty {
			q.Dirty = false
			d.Index, d.Pages = append(d.Index, i), append(d.Pages, q)
		}
	}
	s.Pages = nil
	d.State = s
	return d
}

// writtenSince: any state that may have come of the base.
func writtenSince(t *testing.T, r *rand.Rand, p api.Plan, base api.State) api.State {
	t.Helper()
	s := someState(t, r, p)
	s.Epoch = base.Epoch
	for i := range s.Pages {
		if !s.Pages[i].Dirty {
			s.Pages[i].Data = base.Pages[i].Data
		}
	}
	return s
}
