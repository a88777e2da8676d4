package valid

import (
	"slices"

	"ferry/api"
	"ferry/port"
)

const (
	// ofForm is how many rules, from the first on, a state in form keeps.
	ofForm = 16
	// ofRest is how many one at rest keeps.
	ofRest = 17
	// mostDue is the Due of a wait that begins at the last tick of a frame and lasts as long as one may.
	mostDue = api.MaxDelay + api.MaxTicks
)

// rule: does the state keep it, for a plan in form? A rule has its answer whatever else is broken, so none takes another for granted.
type rule func(p api.Plan, s api.State) bool

// rules: rule n stands at n - 1.
func rules() []rule {
	return []rule{
		idFits, countersFit, listsFit, ofEachProc(procFits), ofEachProc(waitFits), ofEachProc(objFits),
		readyFits, timersFit, timersMeet, semsFit, ofEachPort(msgsFit), ofEachPort(ageFits), rightsFit,
		ofEachProc(eventIsDown), ofEachProc(semIsTaken), ofEachProc(portIsBusy), ofEachPort(outIsEmpty),
	}
}

func within(n, least, most int) bool { return n >= least && n <= most }

// has: is n the number of one of so many?
func has(count, n int) bool { return n >= 0 && n < count }

// ofEachProc: the rule that all processes of the state are so.
func ofEachProc(fits func(p api.Plan, s api.State, q api.Proc) bool) rule {
	return func(p api.Plan, s api.State) bool {
		for _, q := range s.Procs {
			if !fits(p, s, q) {
				return false
			}
		}
		return true
	}
}

// ofEachPort: the rule that all ports that both the state and the plan have are so.
func ofEachPort(fits func(p api.PortPlan, q api.Port) bool) rule {
	return func(p api.Plan, s api.State) bool {
		for i := range min(len(p.Ports), len(s.Ports)) {
			if !fits(p.Ports[i], s.Ports[i]) {
				return false
			}
		}
		return true
	}
}

func idFits(p api.Plan, s api.State) bool { return s.Id == p.Id }

func countersFit(_ api.Plan, s api.State) bool {
	return within(s.Frame, 0, api.MaxFrames) && within(s.Epoch, 0, api.MaxEpoch)
}

func listsFit(p api.Plan, s api.State) bool {
	return len(s.Procs) == len(p.Procs) && len(s.Ports) == len(p.Ports) && len(s.Pages) == len(p.Pages) &&
		len(s.Up) == p.Events && len(s.Sems) == len(p.Sems)
}

func procFits(_ api.Plan, _ api.State, q api.Proc) bool {
	return q.Regs[0] == 0 && within(q.State, api.Dormant, api.Failed) &&
		within(q.Prio, 0, api.MaxPrio) && within(q.Wait, api.WaitNone, api.WaitPort)
}

func waitFits(_ api.Plan, _ api.State, q api.Proc) bool {
	return (q.Wait != api.WaitNone) == (q.State == api.Waiting)
}

func objFits(p api.Plan, _ api.State, q api.Proc) bool {
	switch q.Wait {
	case api.WaitEvent:
		return has(p.Events, q.Obj)
	case api.WaitSem:
		return has(len(p.Sems), q.Obj)
	case api.WaitPort:
		return has(len(p.Ports), q.Obj) && isQueue(p.Ports[q.Obj])
	}
	return q.Obj == 0
}

func isQueue(p api.PortPlan) bool { return p.Kind == api.QueueIn || p.Kind == api.QueueOut }

func isOut(p api.PortPlan) bool { return p.Kind == api.SampleOut || p.Kind == api.QueueOut }

// readyFits: each in Ready is ready and stands there once, and they are as many as are ready: so all of them.
func readyFits(_ api.Plan, s api.State) bool {
	listed := make([]bool, len(s.Procs))
	for _, i := range s.Ready {
		if !has(len(s.Procs), i) || s.Procs[i].State != api.Ready || listed[i] {
			return false
		}
		listed[i] = true
	}
	count := 0
	for _, q := range s.Procs {
		if q.State == api.Ready {
			count++
		}
	}
	return len(s.Ready) == count
}

// timersFit asks for itself what timer.Check asks, since a state may have more processes than that takes.
func timersFit(_ api.Plan, s api.State) bool {
	timed := make([]bool, len(s.Procs))
	for i, x := range s.Timers {
		if !has(len(s.Procs), x.Proc) || timed[x.Proc] || !within(x.Due, 0, mostDue) {
			return false
		}
		if i > 0 && !rise(s.Timers[i-1], x) {
			return false
		}
		timed[x.Proc] = true
	}
	return true
}

func rise(a, b api.Timer) bool { return a.Due < b.Due || a.Due == b.Due && a.Proc < b.Proc }

// timersMeet: only who waits has a timer, and every sleeper has one.
func timersMeet(_ api.Plan, s api.State) bool {
	timed := make([]bool, len(s.Procs))
	for _, x := range s.Timers {
		if !has(len(s.Procs), x.Proc) {
			continue
		}
		if s.Procs[x.Proc].State != api.Waiting {
			return false
		}
		timed[x.Proc] = true
	}
	for i, q := range s.Procs {
		if q.Wait == api.WaitSleep && !timed[i] {
			return false
		}
	}
	return true
}

func semsFit(_ api.Plan, s api.State) bool {
	return !slices.ContainsFunc(s.Sems, func(count int) bool { return !within(count, 0, api.MaxCount) })
}

// msgsFit asks of a port that would be of no age, since that is another rule.
func msgsFit(p api.PortPlan, q api.Port) bool {
	return port.Check(p, api.Port{Msgs: q.Msgs}) == nil
}

func ageFits(p api.PortPlan, q api.Port) bool {
	if p.Kind != api.SampleIn || len(q.Msgs) == 0 {
		return q.Age == 0
	}
	return within(q.Age, 0, api.MaxAge)
}

func rightsFit(p api.Plan, s api.State) bool {
	for i := range min(len(p.Pages), len(s.Pages)) {
		if s.Pages[i].Rights != p.Pages[i].Rights {
			return false
		}
	}
	return true
}

func eventIsDown(p api.Plan, s api.State, q api.Proc) bool {
	return q.Wait != api.WaitEvent || !has(min(p.Events, len(s.Up)), q.Obj) || !s.Up[q.Obj]
}

func semIsTaken(p api.Plan, s api.State, q api.Proc) bool {
	return q.Wait != api.WaitSem || !has(min(len(p.Sems), len(s.Sems)), q.Obj) || s.Sems[q.Obj] == 0
}

// portIsBusy asks nothing of a sampling port: for that one nobody may wait at all, which is another rule.
func portIsBusy(p api.Plan, s api.State, q api.Proc) bool {
	if q.Wait != api.WaitPort || !has(min(len(p.Ports), len(s.Ports)), q.Obj) {
		return true
	}
	held := len(s.Ports[q.Obj].Msgs)
	switch p.Ports[q.Obj].Kind {
	case api.QueueIn:
		return held == 0
	case api.QueueOut:
		return held == p.Ports[q.Obj].Depth
	}
	return true
}

func outIsEmpty(p api.PortPlan, q api.Port) bool { return !isOut(p) || len(q.Msgs) == 0 }
