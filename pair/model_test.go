package pair_test

import (
	"fmt"
	"math/rand"
	"slices"
	"testing"

	"ferry/api"
	"ferry/chunk"
	"ferry/crc"
	"ferry/delta"
	"ferry/hand"
	"ferry/image"
	"ferry/module"
	"ferry/pair"
	"ferry/valid"
)

// modelLetter is one that is made: spent ones stay in the list, marked.
type modelLetter struct {
	from          int
	bytes         string
	spoilt, spent bool
}

// modelModule is one of the two.
type modelModule struct {
	boots []int // all boot numbers that it has had
	down  bool
	peer  int // what it knows of the other
	runs  *module.Module
	spare []hand.Spare
	moves int
}

// model is the chapter read a second time: plain lists, nothing forgotten, an image made at once and only counted down.
type model struct {
	t       *testing.T
	c       api.Config
	inputs  []api.Input
	at      [2]modelModule
	owner   []int
	lost    []bool
	giver   int // -1: no migration
	src     hand.Source
	job     []byte
	units   int // that are left of the job; 0: there is none
	ready   []byte
	letters []modelLetter
	events  []api.Event
}

func newModel(t *testing.T, c api.Config, inputs []api.Input) *model {
	t.Helper()
	w := &model{t: t, c: c, inputs: inputs, giver: -1, owner: slices.Clone(c.Homes), lost: make([]bool, len(c.Parts))}
	for m := range w.at {
		runs, err := module.New(c, m)
		wantBare(t, "module.New", err, nil)
		w.at[m] = modelModule{boots: []int{1}, peer: 1, runs: runs, spare: slices.Repeat([]hand.Spare{{Peer: 1}}, len(c.Parts))}
	}
	return w
}

func (w *model) boot(m int) int {
	if w.at[m].down {
		return 0
	}
	return w.at[m].boots[len(w.at[m].boots)-1]
}

func (w *model) runsOn(part, m int) bool {
	_, err := w.at[m].runs.State(part)
	return err == nil
}

// there: as the chapter has it, with what the migration's Source holds, or nothing.
func (w *model) there(part int) (api.State, bool) {
	if s, err := w.at[w.owner[part]].runs.State(part); err == nil {
		return s, true
	}
	if w.giver < 0 || w.src.Part != part {
		return api.State{}, false
	}
	switch w.src.Phase {
	case 3, 4:
		return w.src.State, true
	case 5:
		if w.owner[part] == w.giver {
			return w.src.State, true
		}
	}
	return api.State{}, false
}

func (w *model) mail(from int, notes []api.Note) {
	w.t.Helper()
	for _, n := range notes {
		b, err := chunk.Put(n)
		wantBare(w.t, "chunk.Put", err, nil)
		w.letters = append(w.letters, modelLetter{from: from, bytes: b})
	}
}

// deed: the Deed of module m is done.
func (w *model) deed(m, part int, d hand.Deed) {
	w.t.Helper()
	p := w.c.Parts[part]
	if d.Cancel {
		w.units, w.ready = 0, nil
	}
	if d.Freeze || d.Run {
		_, err := w.at[m].runs.Take(part)
		if d.Freeze {
			wantBare(w.t, "P24.1: what is frozen runs", err, nil)
		}
	}
	if d.Run {
		wantBare(w.t, "P24.1: it is put on the module", w.at[m].runs.Put(part, d.State), nil)
		w.owner[part] = m
	}
	if d.Job != 0 {
		var err error
		w.ready, w.units = nil, 3+len(p.Procs)+len(p.Ports)+len(p.Pages)
		if d.Job == api.ImageFull {
			w.job, err = image.Encode(p, d.State)
		} else {
			w.job, err = delta.Make(p, d.State, d.Base)
			for _, q := range d.State.Pages {
				if !q.Dirty {
					w.units--
				}
			}
		}
		wantBare(w.t, "P24.1: the state can be packed", err, nil)
	}
	w.mail(m, d.Notes)
	if d.Event != 0 {
		w.events = append(w.events, api.Event{Kind: d.Event, Part: part, Module: w.owner[part]})
	}
}

func (w *model) frame() ([]api.PartOut, []api.Event) {
	w.t.Helper()
	w.events = nil
	for m := range w.at {
		w.at[m].peer = w.boot(1 - m)
	}
	if w.giver >= 0 {
		m, part := w.giver, w.src.Part
		a := hand.At{Own: w.boot(m), Peer: w.at[m].peer, Tries: w.c.Tries, Image: w.ready}
		if s, err := w.at[m].runs.State(part); err == nil {
			a.State = s
		}
		w.ready = nil
		s, d, err := hand.Bound(w.c.Parts[part], w.src, a)
		wantBare(w.t, "P24.1: Bound", err, nil)
		w.src = s
		w.deed(m, part, d)
		if s.Phase == 0 {
			w.giver = -1
		}
	}
	for m := range w.at {
		for part, p := range w.c.Parts {
			if w.at[m].down || !p.Mobile {
				continue
			}
			s, d, err := hand.Turn(p, part, w.at[m].spare[part], hand.At{Own: w.boot(m), Peer: w.at[m].peer, There: !w.lost[part] && w.owner[part] != m})
			wantBare(w.t, "P24.1: Turn", err, nil)
			w.at[m].spare[part] = s
			w.deed(m, part, d)
		}
	}
	for part, p := range w.c.Parts {
		if _, is := w.there(part); p.Mobile && !w.lost[part] && !is {
			w.lost[part] = true
			w.events = append(w.events, api.Event{Kind: 9, Part: part, Module: w.owner[part]})
		}
	}
	var outs []api.PartOut
	for m := range w.at {
		l, err := w.at[m].runs.Frame(w.inputs) // of one that is down nothing runs
		wantBare(w.t, "P24.1: Module.Frame", err, nil)
		outs = append(outs, l...)
	}
	for _, x := range w.c.Windows {
		if x.Part == -1 && w.giver >= 0 && w.units > 0 {
			if w.units = max(0, w.units-x.Len); w.units == 0 {
				w.ready = w.job
			}
		}
	}
	return outs, w.events
}

// step: the step's code, and what a frame tells.
func (w *model) step(o api.Op) api.Answer {
	w.t.Helper()
	made := len(w.letters)
	var a api.Answer
	switch o.Kind {
	case 1:
		a.Outs, a.Events = w.frame()
	case 2:
		a.Code = w.move(o.A)
	case 3:
		a.Code = w.abort(o.A)
	case 4, 5:
		a.Code = w.switched(o.A, o.Kind == 4)
	case 6, 7, 8, 9, 10:
		a.Code = w.letter(o)
	default:
		a.Code = 7
	}
	if len(w.letters) > made {
		a.Msg = len(w.letters)
	}
	return a
}

func (w *model) move(part int) int {
	w.t.Helper()
	if part < 0 || part >= len(w.c.Parts) {
		return 12
	}
	m := w.owner[part]
	_, is := w.there(part)
	switch {
	case !w.c.Parts[part].Mobile:
		return 7
	case w.lost[part]:
		return 16
	case w.giver >= 0:
		return 14
	case w.at[0].down || w.at[1].down:
		return 15
	case !is:
		return 17
	}
	w.at[m].moves++
	s, err := hand.Begin(part, api.Xid{Boot: w.boot(m), Peer: w.boot(1 - m), Num: 2*w.at[m].moves + m})
	wantBare(w.t, "P24.1: Begin", err, nil)
	w.src, w.giver, w.units, w.ready = s, m, 0, nil
	return 0
}

func (w *model) abort(part int) int {
	w.t.Helper()
	switch {
	case part < 0 || part >= len(w.c.Parts):
		return 12
	case w.giver < 0 || w.src.Part != part:
		return 17
	case w.src.Phase == 5:
		return 14
	}
	w.src.Abort = true
	return 0
}

func (w *model) switched(m int, down bool) int {
	switch {
	case m != 0 && m != 1:
		return 12
	case down && w.at[m].down:
		return 15
	case !down && !w.at[m].down:
		return 14
	}
	x := &w.at[m]
	x.down, x.peer, x.spare = down, 0, make([]hand.Spare, len(w.c.Parts))
	if !down {
		x.boots = append(x.boots, x.boots[len(x.boots)-1]+1)
		return 0
	}
	x.runs.Clear()
	if w.giver == m {
		w.giver = -1
	}
	for part, p := range w.c.Parts {
		if !p.Mobile && w.owner[part] == m {
			w.lost[part] = true
		}
	}
	return 0
}

// letter: something befalls a letter.
func (w *model) letter(o api.Op) int {
	w.t.Helper()
	if o.A < 1 || o.A > len(w.letters) || w.letters[o.A-1].spent {
		return 17
	}
	l := &w.letters[o.A-1]
	switch o.Kind {
	case 6:
		l.spent = true
		return w.comes(1-l.from, l.bytes)
	case 7:
		w.letters = append(w.letters, *l)
	case 8:
		l.spent = true
	case 9:
		if l.spoilt || o.B < 1 {
			return 12
		}
		l.spoilt, l.bytes = true, l.bytes[:max(0, len(l.bytes)-o.B)]
	case 10:
		if l.spoilt || o.C < 1 || o.C >= 1<<32 {
			return 12
		}
		b, err := crc.Turn([]byte(l.bytes), o.B, uint32(o.C))
		if err != nil {
			return api.Code(err)
		}
		l.spoilt, l.bytes = true, string(b)
	}
	return 0
}

func (w *model) comes(m int, bytes string) int {
	w.t.Helper()
	if w.at[m].down {
		return 0
	}
	n, err := chunk.Get(bytes)
	if err != nil {
		return api.Code(err)
	}
	p := w.c.Parts[n.Part]
	switch n.Kind {
	case api.MsgChunk, api.MsgCommit, api.MsgCancel:
		mine := w.runsOn(n.Part, m) || w.giver == m && w.src.Part == n.Part
		s, answers, err := hand.Catch(p, n.Part, w.at[m].spare[n.Part], n, w.boot(m), mine)
		wantBare(w.t, "P24.1: Catch", err, nil)
		w.at[m].spare[n.Part] = s
		w.mail(m, answers)
	default:
		if w.giver == m {
			s, _, err := hand.Hear(w.c.Parts[w.src.Part], w.src, n, w.boot(m), w.at[m].peer)
			wantBare(w.t, "P24.1: Hear", err, nil)
			w.src = s
		}
	}
	return 0
}

// look: everything that can be asked, of the pair and of the model.
func (w *model) look(p *pair.Pair) {
	w.t.Helper()
	for m := range w.at {
		wantBoot(w.t, p, m, w.boot(m))
		var to []int
		for i, l := range w.letters {
			if !l.spent && l.from == 1-m {
				to = append(to, i+1)
			}
		}
		wantSame(w.t, fmt.Sprintf("P24.1: Waiting(%d)", m), p.Waiting(m), to)
	}
	for i, l := range w.letters {
		a, spoilt, err := p.Letter(i + 1)
		if l.spent {
			wantBare(w.t, "P24.1: Letter", err, api.ErrNone)
		} else if err != nil || a != (api.Letter{From: l.from, To: 1 - l.from, Bytes: l.bytes}) || spoilt != l.spoilt {
			w.t.Errorf("P24.1: Letter(%d) = %+v, %v, %v, want %+v", i+1, a, spoilt, err, l)
		}
	}
	for part := range w.c.Parts {
		s, is := w.there(part)
		got, err := p.State(part)
		switch {
		case w.lost[part]:
			wantWhere(w.t, p, part, 0, api.ErrLost)
			wantBare(w.t, "P24.1: State", err, api.ErrLost)
		case !w.runsOn(part, 0) && !w.runsOn(part, 1):
			wantWhere(w.t, p, part, 0, api.ErrNone)
		case w.runsOn(part, 0):
			wantWhere(w.t, p, part, 0, nil)
		default:
			wantWhere(w.t, p, part, 1, nil)
		}
		if !w.lost[part] && !is {
			wantBare(w.t, "P24.1: State", err, api.ErrNone)
		}
		if w.lost[part] {
			s = api.State{}
		}
		if !valid.Same(got, s) {
			w.t.Errorf("P24.1: State(%d) = %.400s", part, fmt.Sprintf("%+v", got))
		}
	}
	if w.giver < 0 {
		wantStill(w.t, p)
	} else {
		wantMoving(w.t, p, w.src.Part, w.giver, w.src.Phase)
	}
}

// TestModel: P24.1: rows of any steps, held against the second reading.
func TestModel(t *testing.T) {
	t.Parallel()
	r := rand.New(rand.NewSource(241))
	seen := map[string]int{}
	for range 400 {
		c := someConfig(t, r)
		inputs := someInputs(r, c)
		p, w := newPair(t, c, inputs...), newModel(t, c, inputs)
		w.look(p)
		calm := one(r, 1, 1, 3, 10)
		for range 100 {
			for _, o := range someOps(r, p, c, calm) {
				wanted := w.step(o)
				wantSame(t, fmt.Sprintf("P24.1: %+v", o), p.Step(o), wanted)
				w.look(p)
				seen[fmt.Sprintf("op %d code %d", o.Kind, wanted.Code)]++
				for _, e := range wanted.Events {
					seen[fmt.Sprintf("event %d", e.Kind)]++
				}
				if t.Failed() {
					t.FailNow()
				}
			}
		}
	}
	wantEnough(t, seen, 2, "event 1", "event 2", "event 3", "event 4", "event 5", "event 6", "event 7", "event 8", "event 9")
	wantEnough(t, seen, 2, "op 1 code 0", "op 2 code 0", "op 2 code 7", "op 2 code 12", "op 2 code 14", "op 2 code 15", "op 2 code 16", "op 2 code 17", "op 3 code 0", "op 3 code 12", "op 3 code 17", "op 3 code 14")
	wantEnough(t, seen, 2, "op 4 code 0", "op 4 code 12", "op 4 code 15", "op 5 code 0", "op 5 code 12", "op 5 code 14", "op 6 code 0", "op 6 code 1", "op 6 code 6", "op 6 code 17")
	wantEnough(t, seen, 2, "op 7 code 0", "op 7 code 17", "op 8 code 0", "op 8 code 17", "op 9 code 0", "op 9 code 12", "op 9 code 17", "op 10 code 0", "op 10 code 12", "op 10 code 17", "op 0 code 7", "op 11 code 7")
}
