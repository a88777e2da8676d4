package image

import (
	"slices"

	"ferry/api"
	"ferry/plan"
	"ferry/valid"
	"ferry/wire"
)

// How many bytes bodies have, or what they hold.
const (
	countersSize = 8
	procSize     = 68
	timerSize    = 5
	portHead     = 2
	pageSize     = 1 + api.PageSize
)

// Decode: the state at rest whose full image it is.
func Decode(p api.Plan, b []byte) (api.State, error) {
	sum, err := plan.Sum(p)
	if err != nil {
		return api.State{}, api.ErrPlan
	}
	h, recs, err := open(b)
	if err != nil {
		return api.State{}, err
	}
	switch {
	case h.Kind != api.ImageFull:
		return api.State{}, placed(api.ErrKind, atKind)
	case h.PlanSum != sum:
		return api.State{}, placed(api.ErrPlan, atPlanSum)
	case h.Id != p.Id:
		return api.State{}, placed(api.ErrPlan, atId)
	}
	s, err := Fill(recs)
	if err != nil {
		return api.State{}, err
	}
	s = ofPlan(p, s)
	if err := valid.Rest(p, s); err != nil {
		return api.State{}, err
	}
	return s, nil
}

// ofPlan: the state with what no record tells, as it is the plan's. There may be more pages than planned: that breaks a rule of the state.
func ofPlan(p api.Plan, s api.State) api.State {
	s.Id = p.Id
	for i := range min(len(s.Pages), len(p.Pages)) {
		s.Pages[i].Rights = p.Pages[i].Rights
	}
	return s
}

// Fill: the state that records say.
func Fill(recs []wire.Rec) (api.State, error) {
	var s api.State
	for i, r := range recs {
		if err := checkBody(r); err != nil {
			return api.State{}, placed(err, i)
		}
		s = with(s, r.Tag, read(r.Body))
	}
	return s, nil
}

// checkBody: the body error of a record.
func checkBody(r wire.Rec) error {
	if !lengthFits(r) {
		return api.ErrLength
	}
	if slices.ContainsFunc(flagsOf(r), func(c byte) bool { return c > 1 }) {
		return api.ErrRange
	}
	return nil
}

func lengthFits(r wire.Rec) bool {
	switch r.Tag {
	case TagFrame, TagBase:
		return len(r.Body) == countersSize
	case TagProc:
		return len(r.Body) == procSize
	case TagTimers:
		return len(r.Body)%timerSize == 0
	case TagPort:
		return portFits(r.Body)
	case TagPage, TagPatch:
		return len(r.Body) == pageSize
	}
	return true
}

// portFits: do the messages, as many as are told, end just at the body's end?
func portFits(body []byte) bool {
	if len(body) < portHead {
		return false
	}
	count, left := int(body[1]), body[portHead:]
	for range count {
		if len(left) == 0 || len(left)-1 < int(left[0]) {
			return false
		}
		left = left[1+int(left[0]):]
	}
	return len(left) == 0
}

// flagsOf: those bytes of a body of fitting length that are flags.
func flagsOf(r wire.Rec) []byte {
	switch r.Tag {
	case TagEvents:
		return r.Body
	case TagPage:
		return r.Body[:1]
	}
	return nil
}

// with: the state to which a record with that tag is put; its body has no error.
func with(s api.State, tag int, body reader) api.State {
	switch tag {
	case TagFrame:
		s.Frame, s.Epoch = body.number(4), body.number(4)
	case TagProc:
		s.Procs = append(s.Procs, getProc(body))
	case TagReady:
		s.Ready = getEach(body)
	case TagTimers:
		s.Timers = getTimers(body)
	case TagEvents:
		s.Up = getFlags(body)
	case TagSems:
		s.Sems = getEach(body)
	case TagPort:
		s.Ports = append(s.Ports, getPort(body))
	case TagPage:
		s.Pages = append(s.Pages, getPage(body))
	}
	return s
}

func getProc(body reader) api.Proc {
	var q api.Proc
	for i := 1; i < len(q.Regs); i++ {
		q.Regs[i] = uint32(body.number(4))
	}
	q.Pc = uint32(body.number(4))
	q.State, q.Prio, q.Wait, q.Obj = body.number(1), body.number(1), body.number(1), body.number(1)
	return q
}

// getEach: a number of each byte.
func getEach(body reader) []int {
	var list []int
	for body.left() > 0 {
		list = append(list, body.number(1))
	}
	return list
}

func getTimers(body reader) []api.Timer {
	var timers []api.Timer
	for body.left() > 0 {
		timers = append(timers, api.Timer{Proc: body.number(1), Due: body.number(4)})
	}
	return timers
}

func getFlags(body reader) []bool {
	var flags []bool
	for body.left() > 0 {
		flags = append(flags, body.number(1) == 1)
	}
	return flags
}

func getPort(body reader) api.Port {
	q := api.Port{Age: body.number(1)}
	for range body.number(1) {
		q.Msgs = append(q.Msgs, string(body.bytes(body.number(1))))
	}
	return q
}

func getPage(body reader) api.Page {
	q := api.Page{Dirty: body.number(1) == 1}
	copy(q.Data[:], body.bytes(api.PageSize))
	return q
}
