package ready

import (
	"ferry/api"
	"ferry/timer"
)

// Good: do the three fit together?
func Good(t Table) bool {
	if len(t.Procs) > api.MaxProcs {
		return false
	}
	for _, p := range t.Procs {
		if !goodProc(p) {
			return false
		}
	}
	return goodReady(t) && goodTimers(t)
}

func isPrio(prio int) bool { return prio >= 0 && prio <= api.MaxPrio }

// goodProc: does a process fit together by itself?
func goodProc(p api.Proc) bool {
	if p.Regs[0] != 0 || !isPrio(p.Prio) || p.Obj < 0 {
		return false
	}
	switch p.State {
	case api.Dormant, api.Ready, api.Failed:
		return p.Wait == api.WaitNone && p.Obj == 0
	case api.Waiting:
		return p.Wait == api.WaitSleep && p.Obj == 0 || p.Wait >= api.WaitEvent && p.Wait <= api.WaitPort
	}
	return false
}

// goodReady: as many as are ready, each of them ready and none twice: so all of them.
func goodReady(t Table) bool {
	count := 0
	for _, p := range t.Procs {
		if p.State == api.Ready {
			count++
		}
	}
	if len(t.Ready) != count {
		return false
	}
	var seen [api.MaxProcs]bool
	for _, i := range t.Ready {
		if i < 0 || i >= len(t.Procs) || t.Procs[i].State != api.Ready || seen[i] {
			return false
		}
		seen[i] = true
	}
	return true
}

// goodTimers: only who waits has a timer, and every sleeper has one.
func goodTimers(t Table) bool {
	if timer.Check(t.Timers, len(t.Procs)) != nil {
		return false
	}
	for i, p := range t.Procs {
		_, has := timer.Find(t.Timers, i)
		if has && p.State != api.Waiting || !has && p.Wait == api.WaitSleep {
			return false
		}
	}
	return true
}
