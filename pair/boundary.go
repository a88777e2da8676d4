package pair

import (
	"ferry/api"
	"ferry/hand"
	"ferry/job"
)

// frame: a boundary, and a major frame on each module that is up.
func (p *Pair) frame() api.Answer {
	p.learn()
	events := p.sourceTurn()
	for m, s := range p.sides {
		if s.up {
			events = append(events, p.spareTurns(m)...)
		}
	}
	events = append(events, p.losses()...)
	var outs []api.PartOut
	for _, s := range p.sides {
		if s.up {
			// No script comes to a partition's last frame, the only one that is refused.
			told, _ := s.runs.Frame(p.inputs)
			outs = append(outs, told...)
		}
	}
	p.pack()
	return api.Answer{Outs: outs, Events: events}
}

// learn: each module hears the other's boot number.
func (p *Pair) learn() {
	for m, s := range p.sides {
		if s.up {
			s.knows = p.sides[other(m)].now()
		}
	}
}

// sourceTurn: the boundary of the side that gives away.
func (p *Pair) sourceTurn() []api.Event {
	v, m := p.moving()
	if v == nil {
		return nil
	}
	s, part := p.sides[m], v.source.Part
	at := hand.At{Own: s.now(), Peer: s.knows, Tries: p.tries, Image: v.image}
	at.State, _ = s.runs.State(part) // the zero State, if it doesn't run here
	v.image = nil
	source, d, err := hand.Bound(p.plans[part], v.source, at)
	if err != nil {
		return nil
	}
	v.source = source
	events := p.perform(m, part, d)
	if source.Phase == hand.Idle {
		delete(p.moves, m)
	}
	return events
}

// spareTurns: the boundaries of that module's Spares.
func (p *Pair) spareTurns(m int) []api.Event {
	var events []api.Event
	s := p.sides[m]
	for part := range p.plans {
		if !p.isMobile(part) {
			continue
		}
		owner, is := p.owners[part]
		at := hand.At{Own: s.now(), Peer: s.knows, There: is && owner == other(m)}
		spare, d, err := hand.Turn(p.plans[part], part, s.spares[part], at)
		if err != nil {
			continue
		}
		s.spares[part] = spare
		events = append(events, p.perform(m, part, d)...)
	}
	return events
}

// losses: the mobile partitions of which nobody has anything are lost.
func (p *Pair) losses() []api.Event {
	var events []api.Event
	for part := range p.plans {
		owner, is := p.owners[part]
		if is && p.isMobile(part) && !p.isThere(part) {
			events = append(events, api.Event{Kind: api.EventLost, Part: part, Module: owner})
			delete(p.owners, part)
		}
	}
	return events
}

// perform: the deed is done by that module; what befell the partition.
func (p *Pair) perform(m, part int, d hand.Deed) []api.Event {
	s := p.sides[m]
	if d.Cancel {
		p.moves[m].job, p.moves[m].image = nil, nil
	}
	if d.Freeze {
		s.runs.Take(part)
	}
	if d.Run {
		s.runs.Take(part)
		s.runs.Put(part, d.State)
		p.owners[part] = m
	}
	if d.Job != 0 {
		p.moves[m].job, p.moves[m].image = newJob(p.plans[part], d), nil
	}
	p.send(m, d.Notes)
	if d.Event == 0 {
		return nil
	}
	return []api.Event{{Kind: d.Event, Part: part, Module: p.owners[part]}}
}

// newJob: the job that the deed asks for; no state that hand wants packed is refused.
func newJob(p api.Plan, d hand.Deed) *job.Job {
	if d.Job == api.ImageFull {
		j, _ := job.Full(p, d.State)
		return j
	}
	j, _ := job.Delta(p, d.State, d.Base)
	return j
}

// pack: the job goes on in the windows of the snapshot work.
func (p *Pair) pack() {
	v, _ := p.moving()
	if v == nil || v.job == nil {
		return
	}
	v.job.Run(p.steps)
	if image, err := v.job.Image(); err == nil {
		v.image, v.job = image, nil
	}
}
