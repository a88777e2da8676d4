package module_test

import (
	"math/rand"
	"reflect"
	"slices"
	"testing"

	"ferry/api"
	"ferry/isa"
	"ferry/module"
	"ferry/part"
	"ferry/valid"
)

// model is a second module: a list of states, and by channel what is under way in it.
type model struct {
	c      api.Config
	which  int
	states []*api.State
	under  [][]string
	seen   map[string]int
}

func newModel(t *testing.T, c api.Config, which int, seen map[string]int) *model {
	t.Helper()
	m := &model{c: c, which: which, under: make([][]string, len(c.Links)), seen: seen}
	for i, home := range c.Homes {
		m.states = append(m.states, nil)
		if home == which {
			s := boot(t, c.Parts[i])
			m.states[i] = &s
		}
	}
	return m
}

func (m *model) running() []int {
	var list []int
	for i, s := range m.states {
		if s != nil {
			list = append(list, i)
		}
	}
	return list
}

func (m *model) state(number int) (api.State, error) {
	if number < 0 || number >= len(m.states) {
		return api.State{}, api.ErrArg
	}
	if m.states[number] == nil {
		return api.State{}, api.ErrNone
	}
	return *m.states[number], nil
}

func (m *model) put(number int, s api.State) error {
	_, err := m.state(number)
	if err == nil {
		return api.ErrBusy
	}
	if err == api.ErrArg {
		return err
	}
	if valid.Rest(m.c.Parts[number], s) != nil {
		return api.ErrState
	}
	m.states[number] = &s
	return nil
}

func (m *model) take(number int) (api.State, error) {
	s, err := m.state(number)
	if err != nil {
		return s, err
	}
	m.states[number] = nil
	for k, l := range m.c.Links {
		if l.To == number {
			m.seen["gone with To"] += len(m.under[k])
			m.under[k] = nil
		}
	}
	return s, nil
}

func (m *model) clear() {
	m.states, m.under = make([]*api.State, len(m.states)), make([][]string, len(m.under))
}

func (m *model) comes(number int, inputs []api.Input) []api.Msg {
	var msgs []api.Msg
	for k, l := range m.c.Links {
		for _, data := range m.under[k] {
			if l.To == number {
				msgs = append(msgs, api.Msg{Port: l.In, Data: data})
				m.seen["came by a channel"]++
				if m.states[l.From] == nil {
					m.seen["came of one that was taken"]++
				}
			}
		}
	}
	if n := len(msgs); n > 0 && slices.ContainsFunc(inputs, func(x api.Input) bool { return x.Part == number && x.Frame == m.states[number].Frame }) {
		m.seen["came by a channel and from without"]++
	}
	for _, x := range inputs {
		switch {
		case x.Part == number && x.Frame == m.states[number].Frame:
			msgs = append(msgs, api.Msg{Port: x.Port, Data: x.Data})
			m.seen["came from without"]++
		case x.Part == number:
			m.seen["of another frame"]++
		}
	}
	return msgs
}

func (m *model) frame(inputs []api.Input) ([]api.PartOut, error) {
	for _, i := range m.running() {
		if m.states[i].Frame == api.MaxFrames {
			return nil, api.ErrEnd
		}
	}
	var outs []api.PartOut
	emitted := map[int][]api.Msg{}
	for _, i := range m.running() {
		windows := slices.DeleteFunc(slices.Clone(m.c.Windows), func(w api.Window) bool { return w.Part != i })
		s, out, err := part.Frame(m.c.Parts[i], *m.states[i], m.c.Ticks, windows, m.comes(i, inputs))
		if err != nil {
			panic(err)
		}
		outs = append(outs, api.PartOut{Module: m.which, Part: i, Frame: m.states[i].Frame, Out: out})
		m.states[i], emitted[i] = &s, out.Msgs
	}
	for k, l := range m.c.Links {
		m.under[k] = nil
		for _, msg := range emitted[l.From] {
			if msg.Port == l.Out && m.states[l.To] != nil {
				m.under[k] = append(m.under[k], msg.Data)
			} else if msg.Port == l.Out {
				m.seen["emitted to one that isn't here"]++
			}
		}
	}
	return outs, nil
}

// somePlan: a partition whose processes do much: memory of code and of data, ports of every kind.
func somePlan(r *rand.Rand, id int) api.Plan {
	p := api.Plan{Id: id, Events: 1, Sems: []int{r.Intn(2)}}
	for _, kind := range append(r.Perm(4), 2+r.Intn(2)) {
		q := api.PortPlan{Kind: 1 + kind, Size: one(r, 1, 4), Depth: 1}
		if q.Kind > 2 {
			q.Depth = 1 + r.Intn(3)
		}
		if q.Kind == 1 {
			q.Refresh = r.Intn(3)
		}
		p.Ports = append(p.Ports, q)
	}
	for range 2 {
		p.Pages = append(p.Pages, api.PagePlan{Rights: one(r, 5, 7), Init: someCode(r, p)})
	}
	p.Pages = append(p.Pages, api.PagePlan{Rights: 3, Init: someBytes(r, 64)})
	for range 1 + r.Intn(3) {
		p.Procs = append(p.Procs, api.ProcPlan{Entry: 4 * r.Intn(32), Prio: one(r, 1, 1, 2), Auto: r.Intn(4) > 0})
	}
	return p
}

// portOf: the number of one of the ports of these kinds.
func portOf(r *rand.Rand, p api.Plan, kinds ...int) int {
	for {
		if i := r.Intn(len(p.Ports)); slices.Contains(kinds, p.Ports[i].Kind) {
			return i
		}
	}
}

// someCode: a page of calls with their arguments: most of them write, some read, sleep, wait.
func someCode(r *rand.Rand, p api.Plan) string {
	var code []uint32
	put := func(in api.Instr) {
		w, err := isa.Encode(in)
		if err != nil {
			panic(err)
		}
		code = append(code, w)
	}
	for len(code) < 15 {
		call := one(r, 0, 3, 3, 5, 6, 7, 9, 10, 11, 12, 12, 13, 13, 13, 13, 13, 13, 13, 13, 13, 14)
		first, second := 0, one(r, 1, 5, 30)
		switch call {
		case 3:
			first = one(r, 1, 5, 30)
		case 12:
			first, second = portOf(r, p, api.SampleIn, api.QueueIn), 128
		case 13:
			first, second = portOf(r, p, api.SampleOut, api.QueueOut), 128+r.Intn(40)
		case 14:
			first = portOf(r, p, api.QueueIn, api.QueueOut)
		}
		put(api.Instr{Op: api.InsAddi, A: 3, Imm: one(r, 0, 1, 1, 2, 4)})
		put(api.Instr{Op: api.InsAddi, A: 2, Imm: second})
		put(api.Instr{Op: api.InsAddi, A: 1, Imm: first})
		put(api.Instr{Op: api.InsSys, Imm: call})
	}
	code = code[:15]
	put(api.Instr{Op: api.InsBeq, Imm: -16 + 4*r.Intn(3)})
	return string(isa.Bytes(code))
}

// someConfig: of two partitions at least, the last of which has no channel and may be mobile.
func someConfig(r *rand.Rand) api.Config {
	n := 2 + r.Intn(3)
	c := api.Config{Ticks: 60, Tries: 1}
	for i := range n {
		c.Parts, c.Homes = append(c.Parts, somePlan(r, i)), append(c.Homes, one(r, 0, 0, 0, 0, 1))
	}
	c.Parts[n-1].Mobile = r.Intn(2) == 0
	for at, left := 0, append(r.Perm(n), api.Snap); len(left) > 0 || at < 50; left = left[min(1, len(left)):] {
		w := api.Window{Part: r.Intn(n), Start: at + r.Intn(2), Len: 1 + r.Intn(8)}
		if len(left) > 0 {
			w.Part = left[0]
		}
		c.Windows, at = append(c.Windows, w), w.Start+w.Len
	}
	for range 4 * r.Intn(4) {
		if l := (api.Link{From: r.Intn(n - 1), To: r.Intn(n - 1)}); l.From != l.To {
			l.Out, l.In = portOf(r, c.Parts[l.From], api.SampleOut, api.QueueOut), portOf(r, c.Parts[l.To], api.SampleIn, api.QueueIn)
			c.Links = append(c.Links, l)
		}
	}
	return roomy(c)
}

// someInputs: for the frames that the partitions are at, and for others.
func someInputs(r *rand.Rand, m *model) []api.Input {
	var inputs []api.Input
	for range r.Intn(7) {
		x := api.Input{Part: r.Intn(len(m.states)+1) - r.Intn(2), Frame: r.Intn(5), Port: r.Intn(7) - 1, Data: someBytes(r, one(r, 0, 1, 1, 4, 5))}
		if s, err := m.state(x.Part); err == nil && r.Intn(3) > 0 {
			x.Frame = s.Frame
		}
		inputs = append(inputs, x)
	}
	return roomy(inputs)
}

// touched: the state that is put: mostly with some process set going anew; now and then at its last frames, or one that isn't at rest.
func touched(r *rand.Rand, s api.State) api.State {
	s = valid.Copy(s)
	for i := range s.Procs {
		if q := &s.Procs[i]; q.State == api.Failed || q.State == api.Dormant {
			*q = api.Proc{Regs: q.Regs, Pc: uint32(4 * r.Intn(32)), State: api.Ready, Prio: r.Intn(3)}
			s.Ready = append(s.Ready, i)
		}
	}
	switch r.Intn(25) {
	case 0:
		s.Frame = api.MaxFrames - r.Intn(3)
	case 1:
		s.Procs[0].Regs[0] = 1
	case 2:
		s.Id++
	}
	return roomy(s)
}

// spoil overwrites a value's lists, spare room included: whoever shares memory with them shows it.
func spoil(v reflect.Value) {
	switch v.Kind() {
	case reflect.Struct:
		for i := range v.NumField() {
			spoil(v.Field(i))
		}
	case reflect.Slice:
		all := v.Slice(0, v.Cap())
		for i := range all.Len() {
			spoil(all.Index(i))
			all.Index(i).SetZero()
		}
	}
}

// both is a module and its model, and a bag of the states that were taken.
type both struct {
	t   *testing.T
	r   *rand.Rand
	m   *module.Module
	as  *model
	bag *[]api.State
}

// call makes any call on both, and looks at the answers; what it was handed and what it answered is overwritten then.
func (b both) call() {
	b.t.Helper()
	number := b.r.Intn(len(b.as.states))
	if b.r.Intn(12) == 0 {
		number = one(b.r, -1, len(b.as.states), 1<<40)
	}
	switch b.r.Intn(12) {
	case 0, 1:
		b.take(number)
	case 2, 3, 4:
		b.put(number)
	case 5:
		b.state(number)
		if b.r.Intn(8) == 0 {
			b.m.Clear()
			b.as.clear()
		}
	default:
		b.frame()
	}
	for i := range b.as.states {
		b.state(i)
	}
	running := b.m.Running()
	if want := b.as.running(); !slices.Equal(running, want) || b.m.Which() != b.as.which {
		b.t.Fatalf("P15.1: Running = %v, want %v; Which = %d, want %d", running, want, b.m.Which(), b.as.which)
	}
	wantApart(b.t, "Running", b.m, running)
	spoil(reflect.ValueOf(running))
}

func (b both) wantAnswer(what string, s, want api.State, err, wanted error) {
	b.t.Helper()
	b.as.seen[what+", "+word(wanted)]++
	if wantBare(b.t, "P15.1: "+what, err, wanted); !valid.Same(s, want) {
		b.t.Fatalf("P15.1: %s = %v, want %v", what, s, want)
	}
	wantApart(b.t, what, b.m, s)
	spoil(reflect.ValueOf(s))
}

func word(err error) string {
	if err == nil {
		return "none"
	}
	return err.Error()
}

func (b both) state(number int) {
	b.t.Helper()
	s, err := b.m.State(number)
	want, wanted := b.as.state(number)
	b.wantAnswer("State", s, want, err, wanted)
}

func (b both) take(number int) {
	b.t.Helper()
	s, err := b.m.Take(number)
	want, wanted := b.as.take(number)
	b.wantAnswer("Take", s, want, err, wanted)
	if err == nil {
		*b.bag = append(*b.bag, want)
	}
}

func (b both) put(number int) {
	b.t.Helper()
	if len(*b.bag) == 0 {
		return
	}
	s := one(b.r, *b.bag...)
	// Mostly that of the partition itself.
	for _, x := range *b.bag {
		if x.Id == number && b.r.Intn(8) > 0 {
			s = x
		}
	}
	s = touched(b.r, s)
	wanted := b.as.put(number, valid.Copy(s))
	look := kept(b.t, s)
	err := b.m.Put(number, s)
	look("Put")
	b.wantAnswer("Put", api.State{}, api.State{}, err, wanted)
	wantApart(b.t, "Put", b.m, s)
	spoil(reflect.ValueOf(s))
}

func (b both) frame() {
	b.t.Helper()
	inputs := someInputs(b.r, b.as)
	want, wanted := b.as.frame(inputs)
	look := kept(b.t, inputs)
	outs, err := b.m.Frame(inputs)
	look("Frame")
	wantApart(b.t, "Frame", b.m, inputs, outs)
	b.wantAnswer("Frame", api.State{}, api.State{}, err, wanted)
	wantOuts(b.t, "P15.1: Frame", outs, want...)
	spoil(reflect.ValueOf(outs))
	spoil(reflect.ValueOf(inputs))
	// One at its end would stop all others for ever.
	for i, s := range b.as.states {
		if wanted != nil && s != nil && s.Frame == api.MaxFrames {
			b.take(i)
			*b.bag = (*b.bag)[:len(*b.bag)-1]
		}
	}
}

// TestAgainstModel: P15.1 and P15.4, of rows of calls on two modules of one configuration, between which partitions go to and fro.
func TestAgainstModel(t *testing.T) {
	r := rand.New(rand.NewSource(151))
	seen := map[string]int{}
	for range 200 {
		c := someConfig(r)
		var bag []api.State
		for i := range c.Parts {
			bag = append(bag, boot(t, c.Parts[i]))
		}
		own := roomy(c)
		look := kept(t, c)
		m, n := newModule(t, c, 0), newModule(t, c, 1)
		look("New")
		wantApart(t, "New", c, m, n)
		spoil(reflect.ValueOf(c))
		pair := []both{{t, r, m, newModel(t, own, 0, seen), &bag}, {t, r, n, newModel(t, own, 1, seen), &bag}}
		for range 60 {
			one(r, pair[0], pair[0], pair[1]).call()
			wantApart(t, "two modules", m, n, own, bag)
		}
	}
	for _, what := range []string{
		"came by a channel", "came from without", "came by a channel and from without", "of another frame", "gone with To", "came of one that was taken", "emitted to one that isn't here",
		"State, none", "State, " + word(api.ErrArg), "State, " + word(api.ErrNone), "Take, none", "Take, " + word(api.ErrArg), "Take, " + word(api.ErrNone),
		"Put, none", "Put, " + word(api.ErrArg), "Put, " + word(api.ErrBusy), "Put, " + word(api.ErrState), "Frame, none", "Frame, " + word(api.ErrEnd),
	} {
		if seen[what] < 30 {
			t.Errorf("%s: came about only %d times", what, seen[what])
		}
	}
}

// TestUntouched: P15.2, of a partition that no channel joins, while the others come and go; and P15.3, of one that is taken and put again besides, here or on the other module.
func TestUntouched(t *testing.T) {
	r := rand.New(rand.NewSource(152))
	emitted := 0
	for range 300 {
		c := someConfig(r)
		last := len(c.Parts) - 1
		c.Homes[last] = 0
		windows := slices.DeleteFunc(slices.Clone(c.Windows), func(w api.Window) bool { return w.Part != last })
		modules := []*module.Module{newModule(t, c, 0), newModule(t, c, 1)}
		moves := r.Intn(2) == 0
		at, s := 0, boot(t, c.Parts[last])
		var bag []api.State
		for range 20 {
			for i := range last {
				if x, err := one(r, modules...).Take(i); err == nil {
					bag = append(bag, x)
				} else if k := slices.IndexFunc(bag, func(x api.State) bool { return x.Id == i }); k >= 0 {
					modules[r.Intn(2)].Put(i, bag[k])
				}
			}
			if moves && r.Intn(2) == 0 {
				to := r.Intn(2)
				put(t, modules[to], last, take(t, modules[at], last))
				at = to
			}
			inputs, msgs := someInputs(r, &model{c: c, states: make([]*api.State, last+1)}), []api.Msg(nil)
			for _, x := range inputs {
				if x.Part == last && x.Frame == s.Frame {
					msgs = append(msgs, api.Msg{Port: x.Port, Data: x.Data})
				}
			}
			next, out, err := part.Frame(c.Parts[last], s, c.Ticks, windows, msgs)
			wantBare(t, "part.Frame", err, nil)
			frame(t, modules[1-at], inputs...)
			outs := frame(t, modules[at], inputs...)
			if got := outs[len(outs)-1]; !sameOut(got, api.PartOut{Module: at, Part: last, Frame: s.Frame, Out: out}) {
				t.Fatalf("P15.2, P15.3: it tells %v, want %v", got, out)
			}
			wantState(t, "P15.2, P15.3", modules[at], last, next)
			s, emitted = next, emitted+len(out.Msgs)
		}
	}
	if emitted < 1000 {
		t.Errorf("only %d messages were emitted", emitted)
	}
}
