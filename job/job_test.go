package job_test

import (
	"math"
	"runtime"
	"slices"
	"testing"

	"ferry/api"
	"ferry/delta"
	"ferry/epoch"
	"ferry/image"
	"ferry/job"
	"ferry/valid"
)

// TestExampleUnits: the example 1.
func TestExampleUnits(t *testing.T) {
	p, s := examplePlan(), exampleState(t)
	marked, err := epoch.Mark(p, s)
	wantNone(t, "epoch.Mark", err)
	for _, x := range []struct {
		what  string
		j     *job.Job
		units int
	}{
		{"Full", full(t, p, s), 9}, {"Delta", part(t, p, s, 77), 7}, {"Full of a marked state", full(t, p, marked), 9}, {"Delta of a marked state", part(t, p, marked, 77), 6},
	} {
		if x.j.Units() != x.units || x.j.Left() != x.units {
			t.Errorf("P19.1: %s: %d units, %d left, want %d", x.what, x.j.Units(), x.j.Left(), x.units)
		}
		wantNoImage(t, x.j, api.ErrBusy)
	}
}

// TestExampleRun: the example 2, and the same of a delta.
func TestExampleRun(t *testing.T) {
	p, s := examplePlan(), exampleState(t)
	j := full(t, p, s)
	wantRun(t, j, 4, 4, 5)
	wantNoImage(t, j, api.ErrBusy)
	wantRun(t, j, 0, 0, 5)
	wantRun(t, j, -3, 0, 5)
	wantRun(t, j, math.MinInt, 0, 5)
	wantRun(t, j, 100, 5, 0)
	wantImage(t, j, encode(t, p, s))
	wantRun(t, j, 1, 0, 0)
	wantRun(t, j, 0, 0, 0)
	wantRun(t, j, -1, 0, 0)
	wantImage(t, j, encode(t, p, s))
	if j.Units() != 9 {
		t.Errorf("P19.1: Units of a job that is done: %d", j.Units())
	}
	j = part(t, p, s, 77)
	wantRun(t, j, 6, 6, 1)
	wantNoImage(t, j, api.ErrBusy)
	wantRun(t, j, math.MaxInt, 1, 0)
	wantImage(t, j, makeDelta(t, p, s, 77))
	got, err := delta.Read(p, makeDelta(t, p, s, 77))
	if wantNone(t, "P19.3: the delta's image", err); got.BaseSum != 77 || !slices.Equal(got.Index, []int{1}) {
		t.Errorf("P19.3: the delta's image is that of %v", got)
	}
}

// TestExampleCancel: the example 3, at every point of a job.
func TestExampleCancel(t *testing.T) {
	p, s := examplePlan(), exampleState(t)
	for n := range 9 {
		j := full(t, p, s)
		wantRun(t, j, n, n, 9-n)
		for range 2 {
			j.Cancel()
			wantStopped(t, j)
		}
		if j.Units() != 9 {
			t.Errorf("P19.1: Units of a cancelled job: %d", j.Units())
		}
		wantShare(t, []*job.Job{j}, 5, 0)
	}
	j := full(t, p, s)
	wantRun(t, j, 9, 9, 0)
	j.Cancel()
	wantImage(t, j, encode(t, p, s))
	wantRun(t, j, 3, 0, 0)
	j.Cancel()
	wantImage(t, j, encode(t, p, s))
}

// TestErrors: the example 4: those of image.Encode and of delta.Make, with their places.
func TestErrors(t *testing.T) {
	for _, x := range []struct {
		what           string
		turn           func(p *api.Plan, s *api.State)
		inFull, inPart error
		place          int
	}{
		{"no plan", func(p *api.Plan, s *api.State) { p.Procs = nil }, api.ErrPlan, api.ErrPlan, -1}, {"no plan and no state", func(p *api.Plan, s *api.State) { p.Events, s.Id = -1, 9 }, api.ErrPlan, api.ErrPlan, -1}, {"a plan's page", func(p *api.Plan, s *api.State) { p.Pages[2].Rights = 8 }, api.ErrPlan, api.ErrPlan, -1},
		{"another Id", func(p *api.Plan, s *api.State) { s.Id = 3 }, api.ErrState, api.ErrState, 1}, {"an epoch behind the last", func(p *api.Plan, s *api.State) { s.Epoch = api.MaxEpoch + 1 }, api.ErrState, api.ErrState, 2}, {"no pages", func(p *api.Plan, s *api.State) { s.Pages = nil }, api.ErrState, api.ErrState, 3},
		{"nobody ready at the last epoch", func(p *api.Plan, s *api.State) { s.Ready, s.Epoch = nil, api.MaxEpoch }, api.ErrState, api.ErrState, 7}, {"other rights", func(p *api.Plan, s *api.State) { s.Pages[2].Rights = 3 }, api.ErrState, api.ErrState, 13},
		{"a port out that holds something", func(p *api.Plan, s *api.State) { p.Ports[0].Kind = api.QueueOut }, api.ErrState, api.ErrState, 17}, {"the last epoch", func(p *api.Plan, s *api.State) { s.Epoch = api.MaxEpoch }, nil, api.ErrEnd, -1}, {"nothing", func(p *api.Plan, s *api.State) {}, nil, nil, -1},
	} {
		p, s := examplePlan(), exampleState(t)
		x.turn(&p, &s)
		j, err := job.Full(p, s)
		want(t, "P19.1: Full: "+x.what, err, x.inFull, x.place)
		if (j == nil) != (err != nil) {
			t.Errorf("P19.1: Full: %s: %v, %v", x.what, j, err)
		}
		j, err = job.Delta(p, s, 1)
		want(t, "P19.1: Delta: "+x.what, err, x.inPart, x.place)
		if (j == nil) != (err != nil) {
			t.Errorf("P19.1: Delta: %s: %v, %v", x.what, j, err)
		}
	}
}

// TestExampleShare: the example 5, and other lists.
func TestExampleShare(t *testing.T) {
	p, s := examplePlan(), exampleState(t)
	j, d := full(t, p, s), part(t, p, s, 1)
	wantShare(t, []*job.Job{j, d}, 10, 5, 5)
	wantShare(t, []*job.Job{j, d}, 0, 0, 0)
	wantShare(t, []*job.Job{j, d}, -1, 0, 0)
	wantShare(t, []*job.Job{j, d}, math.MinInt, 0, 0)
	wantShare(t, []*job.Job{j, d}, 100, 4, 2)
	wantShare(t, []*job.Job{j, d}, math.MaxInt, 0, 0)
	wantImage(t, j, encode(t, p, s))
	wantImage(t, d, makeDelta(t, p, s, 1))
	j, d = full(t, p, s), part(t, p, s, 1)
	wantRun(t, j, 8, 8, 1)
	wantRun(t, d, 2, 2, 5)
	wantShare(t, []*job.Job{j, d}, 4, 1, 3)
	wantShare(t, nil, 5)
	wantShare(t, []*job.Job{}, math.MaxInt)
	// From the first one on, so that it has the odd step.
	wantShare(t, []*job.Job{full(t, p, s), full(t, p, s)}, 5, 3, 2)
	wantShare(t, []*job.Job{full(t, p, s), full(t, p, s), full(t, p, s)}, 2, 1, 1, 0)
	j = full(t, p, s)
	wantShare(t, []*job.Job{j, j}, 5, 3, 2)
	wantShare(t, []*job.Job{j, j, j}, 100, 2, 1, 1)
	wantImage(t, j, encode(t, p, s))
	stopped := full(t, p, s)
	stopped.Cancel()
	wantShare(t, []*job.Job{stopped, full(t, p, s), j, full(t, p, s)}, 7, 0, 4, 0, 3)
}

// TestShareWithNil: it is refused wherever it stands, and nothing is done.
func TestShareWithNil(t *testing.T) {
	p, s := examplePlan(), exampleState(t)
	j := full(t, p, s)
	stopped := full(t, p, s)
	stopped.Cancel()
	for _, jobs := range [][]*job.Job{{nil}, {nil, j}, {j, nil}, {j, stopped, nil}, {j, j, j, nil, j}} {
		for _, steps := range []int{-1, 0, 1, 5, 100} {
			took, err := job.Share(jobs, steps)
			want(t, "P19.4: Share with nil", err, api.ErrArg, -1)
			if len(took) > 0 || j.Left() != 9 {
				t.Errorf("P19.4: Share with nil = %v, %d left", took, j.Left())
			}
		}
	}
}

// TestTaken: what is written behind the call into what was handed in changes nothing.
func TestTaken(t *testing.T) {
	p, s := examplePlan(), exampleState(t)
	wholly, partly := encode(t, p, s), makeDelta(t, p, s, 5)
	j, d := full(t, p, s), part(t, p, s, 5)
	wantRun(t, j, 3, 3, 6)
	spoil(&p, &s)
	wantRun(t, j, 3, 3, 3)
	wantRun(t, d, 100, 7, 0)
	wantRun(t, j, 100, 3, 0)
	wantImage(t, j, wholly)
	wantImage(t, d, partly)
}

// spoil writes into all lists.
func spoil(p *api.Plan, s *api.State) {
	for i := range p.Pages {
		p.Pages[i] = api.PagePlan{Rights: 7, Init: "else"}
	}
	p.Procs[0], p.Ports[0] = api.ProcPlan{Prio: 9}, api.PortPlan{}
	s.Procs[0], s.Procs[1].Pc = api.Proc{State: api.Failed}, 99
	s.Ready[0], s.Ports[0].Msgs[0] = 7, "else"
	for i := range s.Pages {
		s.Pages[i].Data[7]++
		s.Pages[i].Dirty = !s.Pages[i].Dirty
	}
}

// TestDecodes: what is made decodes to the state.
func TestDecodes(t *testing.T) {
	p, s := examplePlan(), exampleState(t)
	j := full(t, p, s)
	wantShare(t, []*job.Job{j}, 100, 9)
	b, err := j.Image()
	wantNone(t, "P19.3: Image", err)
	got, err := image.Decode(p, b)
	if wantNone(t, "P19.3: image.Decode", err); !valid.Same(got, s) {
		t.Errorf("P19.3: the image decodes to %v, want %v", got, s)
	}
}

// TestUnlike: two jobs of one state have nothing in common.
func TestUnlike(t *testing.T) {
	p, s := examplePlan(), exampleState(t)
	a, b := full(t, p, s), full(t, p, s)
	wantRun(t, a, 9, 9, 0)
	if b.Left() != 9 {
		t.Errorf("P19.5: another job has %d units left", b.Left())
	}
	b.Cancel()
	wantImage(t, a, encode(t, p, s))
	wantStopped(t, b)
}

// TestEnded: no call leaves a goroutine behind, wherever it stops.
func TestEnded(t *testing.T) {
	p, s := examplePlan(), exampleState(t)
	before := runtime.NumGoroutine()
	for n := range 200 {
		j, d := full(t, p, s), part(t, p, s, 1)
		_, err := j.Run(n % 10)
		wantNone(t, "P19.2: Run", err)
		wantEnded(t, before)
		_, err = job.Share([]*job.Job{j, d, j}, n%17)
		wantNone(t, "P19.4: Share", err)
		wantEnded(t, before)
		j.Cancel()
		_, _ = d.Image()
		wantEnded(t, before)
	}
}
