package job_test

import (
	"errors"
	"math/rand"
	"reflect"
	"runtime"
	"slices"
	"testing"

	"ferry/api"
	"ferry/delta"
	"ferry/image"
	"ferry/job"
	"ferry/plan"
	"ferry/valid"
)

// want looks for the error at that place, or without one where the place is -1.
func want(t *testing.T, what string, err, wanted error, place int) {
	t.Helper()
	var at *api.At
	if api.Code(err) != api.Code(wanted) || api.Place(err) != place || errors.As(err, &at) != (place >= 0) {
		t.Errorf("%s: error %v at %d, want %v at %d", what, err, api.Place(err), wanted, place)
	}
}

// wantNone looks whether there is no error.
func wantNone(t *testing.T, what string, err error) {
	t.Helper()
	want(t, what, err, nil, -1)
}

// examplePlan, exampleState: those of the chapter's examples: two processes, one port, three pages; page 1 is dirty.
func examplePlan() api.Plan {
	return api.Plan{
		Id: 2, Procs: []api.ProcPlan{{Auto: true}, {Entry: 4}}, Ports: []api.PortPlan{{Kind: api.QueueIn, Size: 4, Depth: 2}},
		Pages: []api.PagePlan{{Rights: 5, Init: "abc"}, {Rights: 3}, {Rights: 1, Init: "x"}},
	}
}

func exampleState(t *testing.T) api.State {
	t.Helper()
	s, err := plan.Boot(examplePlan())
	wantNone(t, "plan.Boot", err)
	s.Pages[1].Dirty = true
	s.Ports[0].Msgs = []string{"in", ""}
	return s
}

func full(t *testing.T, p api.Plan, s api.State) *job.Job {
	t.Helper()
	j, err := job.Full(p, s)
	wantNone(t, "P19.1: Full", err)
	return j
}

func part(t *testing.T, p api.Plan, s api.State, sum uint32) *job.Job {
	t.Helper()
	j, err := job.Delta(p, s, sum)
	wantNone(t, "P19.1: Delta", err)
	return j
}

func encode(t *testing.T, p api.Plan, s api.State) []byte {
	t.Helper()
	b, err := image.Encode(p, s)
	wantNone(t, "image.Encode", err)
	return b
}

func makeDelta(t *testing.T, p api.Plan, s api.State, sum uint32) []byte {
	t.Helper()
	b, err := delta.Make(p, s, sum)
	wantNone(t, "delta.Make", err)
	return b
}

// wantRun looks at what Run answers, and how much is left behind it.
func wantRun(t *testing.T, j *job.Job, steps, took, left int) {
	t.Helper()
	n, err := j.Run(steps)
	wantNone(t, "P19.2: Run", err)
	if n != took || j.Left() != left {
		t.Errorf("P19.2: Run(%d) = %d and %d left, want %d and %d", steps, n, j.Left(), took, left)
	}
}

// wantImage looks for the image, in new memory each time.
func wantImage(t *testing.T, j *job.Job, wanted []byte) {
	t.Helper()
	for range 2 {
		b, err := j.Image()
		wantNone(t, "P19.3: Image", err)
		if !slices.Equal(b, wanted) {
			t.Errorf("P19.3: Image = %x, want %x", b, wanted)
		}
		b = b[:cap(b)]
		for i := range b {
			b[i] ^= 0xFF
		}
	}
}

// wantNoImage looks for the error without an image.
func wantNoImage(t *testing.T, j *job.Job, wanted error) {
	t.Helper()
	b, err := j.Image()
	want(t, "P19.3: Image", err, wanted, -1)
	if len(b) > 0 {
		t.Errorf("F1: Image: %x beside an error", b)
	}
}

// wantStopped looks whether the job is cancelled.
func wantStopped(t *testing.T, j *job.Job) {
	t.Helper()
	for _, steps := range []int{-1, 0, 1, 100} {
		n, err := j.Run(steps)
		want(t, "P19.2: Run of a cancelled job", err, api.ErrStop, -1)
		if n != 0 || j.Left() != 0 {
			t.Errorf("P19.2: Run of a cancelled job = %d, %d left", n, j.Left())
		}
	}
	wantNoImage(t, j, api.ErrStop)
}

func wantShare(t *testing.T, jobs []*job.Job, steps int, wanted ...int) {
	t.Helper()
	took, err := job.Share(jobs, steps)
	wantNone(t, "P19.4: Share", err)
	if !slices.Equal(took, wanted) {
		t.Errorf("P19.4: Share(%d) = %v, want %v", steps, took, wanted)
	}
}

// wantEnded looks whether no more goroutines run than did. One that has told that it is over may take a moment to go.
func wantEnded(t *testing.T, before int) {
	t.Helper()
	for range 1000 {
		if runtime.NumGoroutine() <= before {
			return
		}
		runtime.Gosched()
	}
	t.Errorf("P19.5: %d goroutines run, ahead of the calls there were %d", runtime.NumGoroutine(), before)
}

func one[T any](r *rand.Rand, of ...T) T { return of[r.Intn(len(of))] }

func someBytes(r *rand.Rand, n int) []byte {
	b := make([]byte, n)
	r.Read(b)
	return b
}

// somePlan: any plan in form.
func somePlan(r *rand.Rand) api.Plan {
	for {
		if p := somePlanAtAll(r); plan.Check(p) == nil {
			return p
		}
	}
}

func somePlanAtAll(r *rand.Rand) api.Plan {
	p := api.Plan{Id: one(r, 0, 1, 7, 256, 1<<16, 1<<24+5, 2147483647), Mobile: r.Intn(2) == 0, Events: r.Intn(9)}
	for range one(r, 1, 1, 2, 3, 32) {
		p.Pages = append(p.Pages, api.PagePlan{Rights: r.Intn(8), Init: string(someBytes(r, r.Intn(65)))})
	}
	for range 1 + r.Intn(8) {
		p.Procs = append(p.Procs, api.ProcPlan{Entry: 4 * r.Intn(16), Prio: one(r, 0, 1, 255), Auto: r.Intn(2) == 0})
	}
	for range r.Intn(9) {
		q := api.PortPlan{Kind: 1 + r.Intn(4), Size: one(r, 1, 4, 32), Depth: 1}
		if q.Kind == api.QueueIn || q.Kind == api.QueueOut {
			q.Depth = 1 + r.Intn(8)
		}
		p.Ports = append(p.Ports, q)
	}
	for range r.Intn(9) {
		p.Sems = append(p.Sems, one(r, 0, 1, 255))
	}
	return p
}

// someState: any state at rest of the plan.
func someState(t *testing.T, r *rand.Rand, p api.Plan) api.State {
	t.Helper()
	s := api.State{Id: p.Id, Frame: one(r, 0, 1, 258, 2147483646, 2147483647), Epoch: one(r, 0, 1, 65539, 2147483646, 2147483647)}
	for range p.Events {
		s.Up = append(s.Up, r.Intn(2) == 0)
	}
	for range p.Sems {
		s.Sems = append(s.Sems, one(r, 0, 0, 1, 254, 255))
	}
	for _, q := range p.Ports {
		s.Ports = append(s.Ports, somePort(r, q))
	}
	for _, q := range p.Pages {
		page := api.Page{Rights: q.Rights, Dirty: r.Intn(2) == 0}
		copy(page.Data[:], someBytes(r, r.Intn(65)))
		s.Pages = append(s.Pages, page)
	}
	for i := range p.Procs {
		q := someProc(r, p, s)
		s.Procs = append(s.Procs, q)
		if q.State == api.Ready {
			s.Ready = append(s.Ready, i)
		}
		if q.Wait == api.WaitSleep || q.Wait != 0 && r.Intn(2) == 0 {
			s.Timers = append(s.Timers, api.Timer{Proc: i, Due: one(r, 0, 1, 1, 257, 65537, 1009999, 1010000)})
		}
	}
	r.Shuffle(len(s.Ready), func(i, k int) { s.Ready[i], s.Ready[k] = s.Ready[k], s.Ready[i] })
	slices.SortFunc(s.Timers, func(a, b api.Timer) int { return (a.Due-b.Due)*100 + a.Proc - b.Proc })
	wantNone(t, "a random state is at rest", valid.Rest(p, s))
	return s
}

func somePort(r *rand.Rand, p api.PortPlan) api.Port {
	var q api.Port
	if p.Kind == api.SampleOut || p.Kind == api.QueueOut {
		return q
	}
	for range one(r, 0, p.Depth, r.Intn(p.Depth+1)) {
		q.Msgs = append(q.Msgs, string(someBytes(r, one(r, 0, p.Size, r.Intn(p.Size+1)))))
	}
	if p.Kind == api.SampleIn && len(q.Msgs) > 0 {
		q.Age = one(r, 0, 1, 254, 255)
	}
	return q
}

// someProc: a process that may stand in the state, whose things are all laid out.
func someProc(r *rand.Rand, p api.Plan, s api.State) api.Proc {
	q := api.Proc{Pc: r.Uint32(), State: r.Intn(4), Prio: one(r, 0, 1, 2, 255)}
	for k := 1; k < 16; k++ {
		q.Regs[k] = r.Uint32()
	}
	if q.State != api.Waiting {
		return q
	}
	waits := [][2]int{{api.WaitSleep, 0}}
	for i, up := range s.Up {
		if !up {
			waits = append(waits, [2]int{api.WaitEvent, i})
		}
	}
	for i, count := range s.Sems {
		if count == 0 {
			waits = append(waits, [2]int{api.WaitSem, i})
		}
	}
	for i, x := range p.Ports {
		if x.Kind == api.QueueIn && len(s.Ports[i].Msgs) == 0 {
			waits = append(waits, [2]int{api.WaitPort, i})
		}
	}
	w := one(r, waits...)
	q.Wait, q.Obj = w[0], w[1]
	return q
}

// roomy: the value, as new memory, all of whose lists have spare room.
func roomy[T any](v T) T { return copied(reflect.ValueOf(v), 3).Interface().(T) }

// copied: the value as new memory, with so many spare elements behind each list, which are like its first one.
func copied(v reflect.Value, spare int) reflect.Value {
	fresh := reflect.New(v.Type()).Elem()
	switch v.Kind() {
	case reflect.Struct:
		for i := range v.NumField() {
			fresh.Field(i).Set(copied(v.Field(i), spare))
		}
	case reflect.Slice:
		list := reflect.MakeSlice(v.Type(), v.Len()+spare, v.Len()+spare)
		for i := range list.Len() {
			if v.Len() > 0 {
				list.Index(i).Set(copied(v.Index(i%v.Len()), spare))
			}
		}
		fresh.Set(list.Slice(0, v.Len()))
	default:
		fresh.Set(v)
	}
	return fresh
}

// entire: the value with the spare room of its lists, as new memory.
func entire(v reflect.Value) reflect.Value {
	fresh := reflect.New(v.Type()).Elem()
	switch v.Kind() {
	case reflect.Struct:
		for i := range v.NumField() {
			fresh.Field(i).Set(entire(v.Field(i)))
		}
	case reflect.Slice:
		all := v.Slice(0, v.Cap())
		fresh.Set(reflect.MakeSlice(v.Type(), v.Cap(), v.Cap()))
		for i := range v.Cap() {
			fresh.Index(i).Set(entire(all.Index(i)))
		}
	default:
		fresh.Set(v)
	}
	return fresh
}

// kept gives a look whether the value, spare room included, is what it was.
func kept[T any](t *testing.T, v T) func(what string) {
	was := entire(reflect.ValueOf(v)).Interface()
	return func(what string) {
		t.Helper()
		if !reflect.DeepEqual(entire(reflect.ValueOf(v)).Interface(), was) {
			t.Errorf("P19.5: %s: what was handed in has changed", what)
		}
	}
}

// room is the memory of a list, spare room included.
type room struct{ from, to uintptr }

// rooms: of all lists of a value, and of those in them.
func rooms(v reflect.Value) []room {
	var all []room
	switch v.Kind() {
	case reflect.Struct:
		for i := range v.NumField() {
			all = append(all, rooms(v.Field(i))...)
		}
	case reflect.Slice:
		if v.Cap() > 0 {
			all = append(all, room{v.Pointer(), v.Pointer() + uintptr(v.Cap())*v.Type().Elem().Size()})
		}
		if k := v.Type().Elem().Kind(); k == reflect.Struct || k == reflect.Slice {
			for i := range v.Len() {
				all = append(all, rooms(v.Index(i))...)
			}
		}
	}
	return all
}

// wantApart looks whether no two lists of all these values share memory.
func wantApart(t *testing.T, what string, values ...any) {
	t.Helper()
	var all []room
	for _, v := range values {
		all = append(all, rooms(reflect.ValueOf(v))...)
	}
	slices.SortFunc(all, func(a, b room) int {
		if a.from < b.from {
			return -1
		}
		return 1
	})
	for i := 1; i < len(all); i++ {
		if all[i].from < all[i-1].to {
			t.Fatalf("P19.5: %s: two lists share memory", what)
		}
	}
}
