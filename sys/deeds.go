package sys

import (
	"errors"

	"ferry/api"
	"ferry/page"
	"ferry/port"
	"ferry/ready"
)

// wordSize is the number of bytes of an instruction: the Pc stands behind the SYS.
const wordSize = 4

// What each call does, its arguments being right.

func (c *call) yield() {
	c.answer(0)
	c.lay(ready.Yield(c.table(), c.proc))
}

func (c *call) stop() { c.lay(ready.Halt(c.table(), c.proc, api.Dormant)) }

func (c *call) start() {
	n := int(c.reg(1))
	c.answer(0)
	c.lay(ready.Start(c.table(), n, uint32(c.plan.Procs[n].Entry), c.plan.Procs[n].Prio))
}

func (c *call) sleep() {
	n := int(c.reg(1))
	if n == 0 {
		c.yield()
		return
	}
	c.block(api.WaitSleep, 0, c.t+n)
}

func (c *call) prio() {
	n, prio := int(c.reg(1)), int(c.reg(2))
	c.answer(0)
	c.lay(ready.Rank(c.table(), n, prio))
}

func (c *call) time() {
	c.answer(uint32(c.t))
	c.caller().Regs[2] = uint32(c.state.Frame)
}

func (c *call) raise() {
	c.reports = append(c.reports, api.Report{Kind: api.ReportRaise, Proc: c.proc, Code: c.reg(1), Pc: c.caller().Pc - wordSize})
	c.answer(0)
}

func (c *call) set() {
	n := int(c.reg(1))
	c.state.Up[n] = true
	c.answer(0)
	c.lay(ready.WakeAll(c.table(), api.WaitEvent, n, 0))
}

func (c *call) clear() {
	c.state.Up[c.reg(1)] = false
	c.answer(0)
}

func (c *call) await() {
	n := int(c.reg(1))
	if c.state.Up[n] {
		c.answer(0)
		return
	}
	c.wait(api.WaitEvent, n)
}

func (c *call) signal() {
	n := int(c.reg(1))
	best, err := ready.Best(c.table(), api.WaitSem, n)
	switch {
	case err == nil:
		c.answer(0)
		c.lay(ready.Wake(c.table(), best, 0))
	case c.state.Sems[n] == api.MaxCount:
		c.answer(Full)
	default:
		c.state.Sems[n]++
		c.answer(0)
	}
}

func (c *call) take() {
	n := int(c.reg(1))
	if c.state.Sems[n] > 0 {
		c.state.Sems[n]--
		c.answer(0)
		return
	}
	c.wait(api.WaitSem, n)
}

// read looks whether memory takes the message ahead of taking it out of the port.
func (c *call) read() {
	n, addr := c.reg(1), c.reg(2)
	q, data, fresh, err := port.Get(c.plan.Ports[n], c.state.Ports[n])
	if errors.Is(err, api.ErrNone) {
		c.answer(None)
		return
	}
	pages, fault := page.In(c.state.Pages, addr, data)
	if err != nil || fault != api.FaultNone {
		c.err, c.fault = err, fault
		return
	}
	c.state.Ports[n], c.state.Pages = q, pages
	c.answer(uint32(len(data)))
	c.caller().Regs[2] = 0
	if fresh {
		c.caller().Regs[2] = 1
	}
}

func (c *call) write() {
	n, addr, length := c.reg(1), c.reg(2), int(c.reg(3))
	if !c.isFree(n) {
		c.answer(Full)
		return
	}
	data, fault, err := page.Out(c.state.Pages, addr, length)
	if err != nil || fault != api.FaultNone {
		c.err, c.fault = err, fault
		return
	}
	c.state.Ports[n], c.err = port.Write(c.plan.Ports[n], c.state.Ports[n], data)
	c.answer(0)
}

func (c *call) port() {
	n := c.reg(1)
	if c.isFree(n) {
		c.answer(0)
		return
	}
	c.wait(api.WaitPort, int(n))
}
