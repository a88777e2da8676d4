package job_test

import (
	"math/rand"
	"slices"
	"testing"

	"ferry/api"
	"ferry/job"
)

// twin is a job, and by its side what it is to answer.
type twin struct {
	j       *job.Job
	wanted  []byte // the image
	units   int
	made    int
	stopped bool
}

// someTwin: a job of any state, full or delta. Nothing of what it is handed changes or is kept.
func someTwin(t *testing.T, r *rand.Rand) *twin {
	t.Helper()
	p := roomy(somePlan(r))
	s := roomy(someState(t, r, p))
	s.Epoch = min(s.Epoch, api.MaxEpoch-1)
	lookPlan, look := kept(t, p), kept(t, s)
	x := &twin{units: 3 + len(p.Procs) + len(p.Ports)}
	if r.Intn(2) == 0 {
		x.j, x.wanted = full(t, p, s), encode(t, p, s)
		x.units += len(p.Pages)
	} else {
		sum := r.Uint32()
		x.j, x.wanted = part(t, p, s, sum), makeDelta(t, p, s, sum)
		for _, q := range s.Pages {
			if q.Dirty {
				x.units++
			}
		}
	}
	lookPlan("Full and Delta")
	look("Full and Delta")
	// Whoever keeps the lists would see this.
	clear(s.Procs)
	clear(s.Pages)
	clear(s.Ports)
	clear(p.Pages)
	return x
}

func (x *twin) left() int {
	if x.stopped {
		return 0
	}
	return x.units - x.made
}

func (x *twin) run(t *testing.T, steps int) {
	t.Helper()
	n, err := x.j.Run(steps)
	if x.stopped {
		want(t, "P19.2: Run of a cancelled job", err, api.ErrStop, -1)
	} else {
		wantNone(t, "P19.2: Run", err)
	}
	if wanted := max(0, min(steps, x.left())); n != wanted {
		t.Errorf("P19.2: Run(%d) = %d, want %d", steps, n, wanted)
	}
	x.made += n
}

func (x *twin) cancel() {
	x.j.Cancel()
	x.stopped = x.stopped || x.made < x.units
}

// look looks at all that can be asked.
func (x *twin) look(t *testing.T) {
	t.Helper()
	if x.j.Units() != x.units || x.j.Left() != x.left() {
		t.Errorf("P19.1: %d units and %d left, want %d and %d", x.j.Units(), x.j.Left(), x.units, x.left())
	}
	switch {
	case x.stopped:
		wantNoImage(t, x.j, api.ErrStop)
	case x.made < x.units:
		wantNoImage(t, x.j, api.ErrBusy)
	default:
		wantImage(t, x.j, x.wanted)
	}
}

// TestRows: any row of calls of Run and Cancel.
func TestRows(t *testing.T) {
	r := rand.New(rand.NewSource(192))
	done, stopped := 0, 0
	for range 1500 {
		x := someTwin(t, r)
		x.look(t)
		for range 12 {
			switch r.Intn(30) {
			case 0:
				x.cancel()
			case 1:
				x.run(t, one(r, -1, 0, -1<<63, 1<<63-1))
			default:
				x.run(t, r.Intn(10))
			}
			x.look(t)
			if t.Failed() {
				t.FailNow()
			}
		}
		if x.stopped {
			stopped++
		} else if x.made == x.units {
			done++
		}
	}
	if done < 300 || stopped < 200 {
		t.Errorf("only %d jobs were done, and %d cancelled", done, stopped)
	}
}

// TestAllDeals: however the steps are dealt out, the image is the same.
func TestAllDeals(t *testing.T) {
	p, s := examplePlan(), exampleState(t)
	wanted := encode(t, p, s)
	// Each bit says whether a call of Run ends behind that unit.
	for cuts := range 1 << 8 {
		j := full(t, p, s)
		steps, sum := 1, 0
		for bit := range 9 {
			if bit < 8 && cuts>>bit&1 == 0 {
				steps++
				continue
			}
			n, err := j.Run(steps)
			wantNone(t, "P19.2: Run", err)
			sum += n
			steps = 1
		}
		if sum != j.Units() || j.Left() != 0 {
			t.Errorf("P19.2: %d steps were taken of %d", sum, j.Units())
		}
		wantImage(t, j, wanted)
	}
}

// shareOf: what Share is to answer, and how far each twin comes by it: the turns are dealt one by one.
func shareOf(all []*twin, steps int) []int {
	took := make([]int, len(all))
	for turn := 0; steps > 0; turn++ {
		if !slices.ContainsFunc(all, func(x *twin) bool { return x.left() > 0 }) {
			break
		}
		if x := all[turn%len(all)]; x.left() > 0 {
			x.made++
			took[turn%len(all)]++
			steps--
		}
	}
	return took
}

// TestShares: any lists of jobs, some of them told several times, some done or cancelled.
func TestShares(t *testing.T) {
	r := rand.New(rand.NewSource(194))
	for range 500 {
		var all []*twin
		for range r.Intn(6) {
			all = append(all, someTwin(t, r))
		}
		for range 6 {
			var list []*twin
			for range r.Intn(7) {
				if len(all) > 0 {
					list = append(list, one(r, all...))
				}
			}
			var jobs []*job.Job
			for _, x := range list {
				jobs = append(jobs, x.j)
			}
			was := slices.Clone(jobs)
			steps := one(r, r.Intn(8), r.Intn(40), r.Intn(200), -5, 1<<63-1)
			wantShare(t, jobs, steps, shareOf(list, steps)...)
			if !slices.Equal(jobs, was) {
				t.Error("P19.5: Share changed the list")
			}
			for _, x := range all {
				x.look(t)
			}
			if len(all) > 0 && r.Intn(4) == 0 {
				one(r, all...).cancel()
			}
			if t.Failed() {
				t.FailNow()
			}
		}
	}
}

// TestFair: of jobs that all are unlike, those that have a unit left are never more than a step apart, the first ones ahead.
func TestFair(t *testing.T) {
	p, s := examplePlan(), exampleState(t)
	for steps := range 40 {
		jobs := []*job.Job{full(t, p, s), part(t, p, s, 1), full(t, p, s), part(t, p, s, 2)}
		took, err := job.Share(jobs, steps)
		wantNone(t, "P19.4: Share", err)
		most, sum := slices.Max(took), 0
		for i, j := range jobs {
			if j.Left() > 0 && took[i] < most-1 || i > 0 && j.Left() > 0 && jobs[i-1].Left() > 0 && took[i] > took[i-1] {
				t.Errorf("P19.4: Share(%d) = %v", steps, took)
			}
			sum += took[i]
		}
		if sum != min(steps, 9+7+9+7) {
			t.Errorf("P19.4: Share(%d) took %d steps", steps, sum)
		}
	}
}

// TestManyJobs: a long list of jobs that have nothing to do doesn't hold a call up.
func TestManyJobs(t *testing.T) {
	p, s := examplePlan(), exampleState(t)
	j, stopped := full(t, p, s), full(t, p, s)
	stopped.Cancel()
	jobs := append(slices.Repeat([]*job.Job{stopped}, 100000), j)
	took, err := job.Share(jobs, 1<<63-1)
	wantNone(t, "P19.4: Share", err)
	if took[100000] != 9 {
		t.Errorf("P19.4: the only job with units took %d steps", took[100000])
	}
}
