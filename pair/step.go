package pair

import (
	"math"

	"ferry/api"
	"ferry/chunk"
	"ferry/hand"
)

// Step: one step of a script.
func (p *Pair) Step(o api.Op) api.Answer {
	made := p.link.Made()
	a, err := p.do(o)
	if err != nil {
		return api.Answer{Code: api.Code(err)}
	}
	if last := p.link.Made(); last != made {
		a.Msg = last
	}
	return a
}

func (p *Pair) do(o api.Op) (api.Answer, error) {
	switch o.Kind {
	case api.OpFrame:
		return p.frame(), nil
	case api.OpMove:
		return api.Answer{}, p.move(o.A)
	case api.OpAbort:
		return api.Answer{}, p.abort(o.A)
	case api.OpCrash:
		return api.Answer{}, p.crash(o.A)
	case api.OpUp:
		return api.Answer{}, p.bringUp(o.A)
	case api.OpDeliver:
		return api.Answer{}, p.deliver(o.A)
	}
	return api.Answer{}, p.befall(o)
}

// befall: what the world does to a letter, short of delivering it.
func (p *Pair) befall(o api.Op) error {
	switch o.Kind {
	case api.OpCopy:
		_, err := p.link.Copy(o.A)
		return err
	case api.OpDrop:
		return p.link.Drop(o.A)
	case api.OpTrim:
		return p.link.Trim(o.A, o.B)
	case api.OpFlip:
		return p.flip(o.A, o.B, o.C)
	}
	return api.ErrKind
}

func (p *Pair) flip(letter, at, mask int) error {
	// That there is no such letter goes ahead of a mask that is none.
	if _, _, err := p.link.Look(letter); err != nil {
		return err
	}
	if mask < 1 || mask > math.MaxUint32 {
		return api.ErrArg
	}
	return p.link.Flip(letter, at, uint32(mask))
}

// move: a migration begins.
func (p *Pair) move(part int) error {
	if !p.isPart(part) {
		return api.ErrArg
	}
	if !p.isMobile(part) {
		return api.ErrKind
	}
	m, err := p.find(part)
	if err != nil {
		return err
	}
	if v, _ := p.moving(); v != nil {
		return api.ErrBusy
	}
	from, to := p.sides[m], p.sides[other(m)]
	if !from.up || !to.up {
		return api.ErrDown
	}
	if !p.isThere(part) {
		return api.ErrNone
	}
	// The two modules' numbers are never alike: those of module 0 are even, those of module 1 odd.
	number := 2*(from.begun+1) + m
	source, err := hand.Begin(part, api.Xid{Boot: from.boot, Peer: to.boot, Num: number})
	if err != nil {
		return err
	}
	from.begun++
	p.moves[m] = &move{source: source}
	return nil
}

// abort: the source is asked to give up.
func (p *Pair) abort(part int) error {
	if !p.isPart(part) {
		return api.ErrArg
	}
	v, _ := p.moving()
	if v == nil || v.source.Part != part {
		return api.ErrNone
	}
	source, err := hand.Ask(p.plans[part], v.source)
	if err != nil {
		return err
	}
	v.source = source
	return nil
}

// crash: the module goes down.
func (p *Pair) crash(m int) error {
	if !isModule(m) {
		return api.ErrArg
	}
	s := p.sides[m]
	if !s.up {
		return api.ErrDown
	}
	s.up = false
	s.runs.Clear()
	clear(s.spares)
	delete(p.moves, m)
	for part := range p.plans {
		// A mobile one may be taken over or back; whether it is lost is told at the next boundary.
		if owner, is := p.owners[part]; is && owner == m && !p.isMobile(part) {
			delete(p.owners, part)
		}
	}
	return nil
}

// bringUp: the module is up again, and empty.
func (p *Pair) bringUp(m int) error {
	if !isModule(m) {
		return api.ErrArg
	}
	s := p.sides[m]
	if s.up {
		return api.ErrBusy
	}
	s.up, s.knows = true, 0
	s.boot++
	return nil
}

// deliver: a letter comes.
func (p *Pair) deliver(letter int) error {
	a, err := p.link.Take(letter)
	if err != nil {
		return err
	}
	if !p.sides[a.To].up {
		return nil
	}
	n, err := chunk.Get(a.Bytes)
	if err != nil {
		return err
	}
	if !p.isMobile(n.Part) {
		return nil
	}
	switch n.Kind {
	case api.MsgAck, api.MsgHave, api.MsgRefuse, api.MsgStarted:
		return p.hear(a.To, n)
	}
	return p.catch(a.To, n)
}

// hear: a note to the side that gives away.
func (p *Pair) hear(m int, n api.Note) error {
	v, s := p.moves[m], p.sides[m]
	if v == nil {
		return nil
	}
	source, _, err := hand.Hear(p.plans[v.source.Part], v.source, n, s.now(), s.knows)
	if err != nil {
		return err
	}
	v.source = source
	return nil
}

// catch: a note to the side that may get the partition.
func (p *Pair) catch(m int, n api.Note) error {
	s, v := p.sides[m], p.moves[m]
	mine := s.has(n.Part) || v != nil && v.source.Part == n.Part
	spare, answers, err := hand.Catch(p.plans[n.Part], n.Part, s.spares[n.Part], n, s.now(), mine)
	if err != nil {
		return err
	}
	s.spares[n.Part] = spare
	p.send(m, answers)
	return nil
}

// send: the notes go on their way from that module to the other one.
func (p *Pair) send(m int, notes []api.Note) {
	for _, n := range notes {
		// No note that hand answers is refused here.
		if bytes, err := chunk.Put(n); err == nil {
			p.link.Send(api.Letter{From: m, To: other(m), Bytes: bytes})
		}
	}
}
