package mirror_test

import (
	"math/rand"
	"slices"
	"testing"

	"ferry/api"
	"ferry/part"
	"ferry/plan"
)

// model is a second reading of the chapter: what the partition does from a state on, each frame in the three pieces of layer 13.
type model struct {
	outs   []api.Out
	states []api.State // one more: the first one too
}

func played(t *testing.T, c api.Config, self int, s api.State, inputs []api.Input, frames int) model {
	t.Helper()
	p := c.Parts[self]
	m := model{states: []api.State{s}}
	for range frames {
		var msgs []api.Msg
		for _, x := range inputs {
			if x.Part == self && x.Frame == s.Frame {
				msgs = append(msgs, api.Msg{Port: x.Port, Data: x.Data})
			}
		}
		var out api.Out
		var err error
		s, out.Reports, err = part.Begin(p, s, msgs)
		wantBare(t, "part.Begin", err, nil)
		for _, w := range c.Windows {
			if w.Part == self {
				var more []api.Report
				s, more, err = part.Window(p, s, w.Start, w.Len)
				wantBare(t, "part.Window", err, nil)
				out.Reports = append(out.Reports, more...)
			}
		}
		s, out.Msgs, err = part.End(p, s, c.Ticks)
		wantBare(t, "part.End", err, nil)
		m.outs, m.states = append(m.outs, out), append(m.states, s)
	}
	return m
}

func boot(t *testing.T, p api.Plan) api.State {
	t.Helper()
	s, err := plan.Boot(p)
	wantBare(t, "plan.Boot", err, nil)
	return s
}

// last: the state behind all frames.
func (m model) last() api.State { return m.states[len(m.states)-1] }

// alike: are they equal but for what a checkpoint marks?
func alike(a, b api.State) bool { return same(unmarked(a), unmarked(b)) }

func unmarked(s api.State) api.State {
	s.Epoch, s.Pages = 0, slices.Clone(s.Pages)
	for i := range s.Pages {
		s.Pages[i].Dirty = false
	}
	return s
}

// judged: what Judge is to answer, where no frame is beyond the model's.
func (m model) judged(self int, told []api.PartOut) int {
	for i, x := range told {
		if x.Part != self {
			continue
		}
		if x.Frame < 0 || x.Frame >= 1000000 || !same(x.Out, m.outs[x.Frame]) {
			return i
		}
	}
	return len(told)
}

// someTold: what was told of the partition and of others, most of it as it is.
func someTold(r *rand.Rand, m model, self int) []api.PartOut {
	var l []api.PartOut
	wrong := one(r, 1000000, 40, 10, 3)
	for range r.Intn(30) {
		x := api.PartOut{Module: one(r, 0, 1, 7), Part: self, Frame: r.Intn(len(m.outs))}
		x.Out = m.outs[x.Frame]
		switch {
		case seldom(r, 4):
			x.Part = one(r, -1, self+1, 99)
			x.Frame = one(r, x.Frame, -1, 1000000)
		case seldom(r, wrong):
			x.Frame = one(r, -1, 1000000, 1000001, -1<<63, 1<<63-1)
		case seldom(r, wrong):
			x.Out = changedOut(r, x.Out)
		}
		l = append(l, x)
	}
	return l
}

// changedOut: the out with one change (at most).
func changedOut(r *rand.Rand, o api.Out) api.Out {
	o.Msgs, o.Reports = slices.Clone(o.Msgs), slices.Clone(o.Reports)
	if coin(r) {
		o.Msgs = changedList(r, o.Msgs, func(m *api.Msg) {
			if coin(r) {
				m.Port++
			} else {
				m.Data += "x"
			}
		})
		return o
	}
	o.Reports = changedList(r, o.Reports, func(p *api.Report) {
		switch r.Intn(4) {
		case 0:
			p.Kind++
		case 1:
			p.Proc++
		case 2:
			p.Code++
		case 3:
			p.Pc++
		}
	})
	return o
}

// changedList: one element is changed, gone or one too many, or two of them change places.
func changedList[T any](r *rand.Rand, l []T, change func(*T)) []T {
	if len(l) == 0 {
		return append(l, *new(T))
	}
	switch at := r.Intn(len(l)); r.Intn(4) {
	case 0:
		return slices.Delete(l, at, at+1)
	case 1:
		return slices.Insert(l, at, l[at])
	case 2:
		l[0], l[at] = l[at], l[0]
	default:
		change(&l[at])
	}
	return l
}

// changedState: the state with a change in one field; some of them don't matter.
func changedState(r *rand.Rand, s api.State) api.State {
	s = roomy(s)
	switch proc, page, port := &s.Procs[r.Intn(len(s.Procs))], &s.Pages[r.Intn(len(s.Pages))], &s.Ports[r.Intn(len(s.Ports))]; r.Intn(20) {
	case 0:
		s.Id++
	case 1:
		s.Frame++
	case 2:
		s.Frame = one(r, -1, 1000001, -1<<63, 1<<63-1)
	case 3:
		proc.Regs[r.Intn(16)]++
	case 4:
		proc.Pc += 4
	case 5:
		proc.State++
	case 6:
		proc.Prio++
	case 7:
		proc.Wait++
	case 8:
		proc.Obj++
	case 9:
		s.Ready = append(s.Ready, 0)
	case 10:
		s.Timers = append(s.Timers, api.Timer{Proc: 0, Due: 5})
	case 11:
		s.Up = append(s.Up, true)
	case 12:
		s.Sems[0]++
	case 13:
		port.Age++
	case 14:
		port.Msgs = append(port.Msgs, "")
	case 15:
		page.Rights ^= 1
	case 16:
		page.Data[r.Intn(64)] ^= 4
	case 17:
		s.Pages = s.Pages[1:]
	case 18:
		page.Dirty = !page.Dirty
	default:
		s.Epoch = one(r, 1, 2147483647, -1, 1<<63-1)
	}
	return s
}
