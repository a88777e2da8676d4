package part

import (
	"ferry/api"
	"ferry/core"
	"ferry/port"
	"ferry/ready"
	"ferry/sys"
	"ferry/timer"
	"ferry/valid"
)

// wordSize is the number of bytes of an instruction: behind a call the Pc stands behind the SYS.
const wordSize = 4

// partition is one under way, in a state that is its own and in form. A layer below refuses nothing of such a state; err would be kept if one did.
type partition struct {
	plan    api.Plan
	state   api.State
	reports []api.Report
	err     error
}

func own(plan api.Plan, s api.State) *partition {
	return &partition{plan: plan, state: valid.Copy(s)}
}

// told: the state behind it all, and the reports.
func (p *partition) told() (api.State, []api.Report, error) {
	if p.err != nil {
		return api.State{}, nil, p.err
	}
	return p.state, p.reports, nil
}

func (p *partition) report(reports ...api.Report) { p.reports = append(p.reports, reports...) }

// failed keeps the first error; is there one?
func (p *partition) failed(err error) bool {
	if p.err == nil {
		p.err = err
	}
	return p.err != nil
}

func (p *partition) table() ready.Table { return ready.Of(p.state) }

// lay puts what a call of the layer of the processes answered into the state.
func (p *partition) lay(t ready.Table, err error) {
	if !p.failed(err) {
		p.state.Procs, p.state.Ready, p.state.Timers = t.Procs, t.Ready, t.Timers
	}
}

// frame does a whole frame, and answers what it emits.
func (p *partition) frame(ticks int, windows []api.Window, msgs []api.Msg) api.Out {
	p.begin(msgs)
	for _, w := range windows {
		p.window(w.Start, w.Start+w.Len)
	}
	out := api.Out{Msgs: p.end(ticks), Reports: p.reports}
	// The next frame's are a list of their own.
	p.reports = nil
	return out
}

func (p *partition) begin(msgs []api.Msg) {
	ports, reports, err := port.Arrive(p.plan.Ports, p.state.Ports, msgs)
	if p.failed(err) {
		return
	}
	p.state.Ports = ports
	p.report(reports...)
	p.wakeAt(api.QueueIn)
}

// wakeAt wakes all who wait for a queuing port of the kind and need no longer.
func (p *partition) wakeAt(kind int) {
	for i, q := range p.plan.Ports {
		if q.Kind != kind {
			continue
		}
		free, err := port.Free(q, p.state.Ports[i])
		if !p.failed(err) && free {
			p.lay(ready.WakeAll(p.table(), api.WaitPort, i, 0))
		}
	}
}

// window: each time round a timer that is due has fired, so that until lies behind now.
func (p *partition) window(start, end int) {
	for now := start; now < end && p.err == nil; {
		table, _, err := ready.Fire(p.table(), now)
		p.lay(table, err)
		until := end
		if due, is := timer.Next(p.state.Timers); is {
			until = min(until, due)
		}
		if len(p.state.Ready) == 0 {
			now = until
		} else {
			now += p.turn(now, until)
		}
	}
}

// turn lets the process run that is to run, from now till then at most; so many ticks it took.
func (p *partition) turn(now, until int) int {
	proc, err := ready.Pick(p.table())
	if p.failed(err) {
		return 0
	}
	pages, behind, stop := core.Run(p.state.Pages, p.state.Procs[proc], until-now)
	p.state.Pages, p.state.Procs[proc] = pages, behind
	switch stop.Kind {
	case api.StopFault:
		p.fail(proc, stop.Code)
	case api.StopCall:
		p.call(proc, stop.Code, now+stop.Steps)
	}
	return stop.Steps
}

// fail: the process is failed, and that is reported.
func (p *partition) fail(proc, fault int) {
	p.report(api.Report{Kind: api.ReportFault, Proc: proc, Code: uint32(fault), Pc: p.state.Procs[proc].Pc})
	p.lay(ready.Halt(p.table(), proc, api.Failed))
}

// call does a process's call at the time now.
func (p *partition) call(proc, number, now int) {
	result, err := sys.Do(p.plan, p.state, proc, number, now)
	if p.failed(err) {
		return
	}
	p.state = result.State
	p.report(result.Reports...)
	if result.Fault != api.FaultNone {
		p.state.Procs[proc].Pc -= wordSize
		p.fail(proc, result.Fault)
	}
}

// end empties the ports out, and answers what they held.
func (p *partition) end(ticks int) []api.Msg {
	ports, msgs, err := port.Emit(p.plan.Ports, p.state.Ports)
	if p.failed(err) {
		return nil
	}
	p.state.Ports = ports
	p.wakeAt(api.QueueOut)
	timers, err := timer.Shift(p.state.Timers, ticks)
	if p.failed(err) {
		return nil
	}
	p.state.Timers = timers
	p.state.Frame++
	return msgs
}
