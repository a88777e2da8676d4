package sys

import (
	"ferry/api"
	"ferry/port"
	"ferry/ready"
	"ferry/valid"
)

const (
	// forever is the time-out that never comes.
	forever = 0xFFFFFFFF
	// noTimer is the due of one who waits for ever.
	noTimer = -1
)

// call is a system call under way, in a state that is its own and in form. A layer below refuses nothing of such a state; err would be kept if one did.
type call struct {
	plan    api.Plan
	state   api.State
	proc, t int
	reports []api.Report
	fault   int
	err     error
}

func begin(p api.Plan, s api.State, proc, t int) *call {
	return &call{plan: p, state: valid.Copy(s), proc: proc, t: t}
}

// obey looks at the arguments, in the order of the registers, and does the call if all are right.
func (c *call) obey(r row) {
	for i, right := range r.args {
		if !right(c, c.reg(i+1)) {
			c.answer(Wrong)
			return
		}
	}
	r.do(c)
}

func (c *call) caller() *api.Proc { return &c.state.Procs[c.proc] }

func (c *call) reg(n int) uint32 { return c.caller().Regs[n] }

func (c *call) answer(v uint32) { c.caller().Regs[1] = v }

func (c *call) table() ready.Table { return ready.Of(c.state) }

// lay puts what a call of the layer of the processes answered into the state.
func (c *call) lay(t ready.Table, err error) {
	if err != nil {
		c.err = err
		return
	}
	c.state.Procs, c.state.Ready, c.state.Timers = t.Procs, t.Ready, t.Timers
}

// wait: the caller waits for the thing, as long as the time-out in r2 says.
func (c *call) wait(kind, obj int) {
	switch n := c.reg(2); n {
	case 0:
		c.answer(Late)
	case forever:
		c.block(kind, obj, noTimer)
	default:
		c.block(kind, obj, c.t+int(n))
	}
}

func (c *call) block(kind, obj, due int) {
	c.lay(ready.Block(c.table(), c.proc, kind, obj, due))
}

// isOf: is n the number of one of so many?
func isOf(n uint32, count int) bool { return n < uint32(count) }

func (c *call) isAny(uint32) bool { return true }

func (c *call) isProc(n uint32) bool { return isOf(n, len(c.plan.Procs)) }

// isIdle: a process that may begin.
func (c *call) isIdle(n uint32) bool {
	if !c.isProc(n) {
		return false
	}
	state := c.state.Procs[n].State
	return state == api.Dormant || state == api.Failed
}

func (c *call) isPrio(n uint32) bool { return n <= api.MaxPrio }

func (c *call) isDelay(n uint32) bool { return n <= api.MaxDelay }

func (c *call) isTimeout(n uint32) bool { return c.isDelay(n) || n == forever }

func (c *call) isEvent(n uint32) bool { return isOf(n, c.plan.Events) }

func (c *call) isSem(n uint32) bool { return isOf(n, len(c.plan.Sems)) }

// isKind: is n the number of a port of one of the two kinds?
func (c *call) isKind(n uint32, sample, queue int) bool {
	if !isOf(n, len(c.plan.Ports)) {
		return false
	}
	kind := c.plan.Ports[n].Kind
	return kind == sample || kind == queue
}

func (c *call) isIn(n uint32) bool { return c.isKind(n, api.SampleIn, api.QueueIn) }

func (c *call) isOut(n uint32) bool { return c.isKind(n, api.SampleOut, api.QueueOut) }

func (c *call) isQueue(n uint32) bool { return c.isKind(n, api.QueueIn, api.QueueOut) }

// isLength: of a message to the port in r1, which has been found right.
func (c *call) isLength(n uint32) bool { return n <= uint32(c.plan.Ports[c.reg(1)].Size) }

// isFree: need nobody wait for the port? Nobody ever waits for a sampling port, of which its layer tells nothing but an error.
func (c *call) isFree(n uint32) bool {
	free, err := port.Free(c.plan.Ports[n], c.state.Ports[n])
	return free || err != nil
}
