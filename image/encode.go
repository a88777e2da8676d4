package image

import (
	"ferry/api"
	"ferry/plan"
	"ferry/valid"
	"ferry/wire"
)

// Fields: the records of a state, but its pages.
func Fields(p api.Plan, s api.State) ([]wire.Rec, error) {
	if err := valid.Rest(p, s); err != nil {
		return nil, err
	}
	var recs []wire.Rec
	add := func(tag int, put func(*wire.Writer)) {
		recs = append(recs, wire.Rec{Tag: tag, Body: written(put)})
	}
	add(TagFrame, func(w *wire.Writer) {
		w.U32(s.Frame)
		w.U32(s.Epoch)
	})
	for _, q := range s.Procs {
		add(TagProc, func(w *wire.Writer) { putProc(w, q) })
	}
	add(TagReady, func(w *wire.Writer) { putEach(w, s.Ready) })
	add(TagTimers, func(w *wire.Writer) { putTimers(w, s.Timers) })
	add(TagEvents, func(w *wire.Writer) { putFlags(w, s.Up) })
	add(TagSems, func(w *wire.Writer) { putEach(w, s.Sems) })
	for _, q := range s.Ports {
		add(TagPort, func(w *wire.Writer) { putPort(w, q) })
	}
	return recs, nil
}

// putProc leaves Regs[0] out, which is always 0.
func putProc(w *wire.Writer, q api.Proc) {
	for _, reg := range q.Regs[1:] {
		w.U32(int(reg))
	}
	w.U32(int(q.Pc))
	putEach(w, []int{q.State, q.Prio, q.Wait, q.Obj})
}

// putEach puts a byte for each number.
func putEach(w *wire.Writer, list []int) {
	for _, n := range list {
		w.U8(n)
	}
}

func putTimers(w *wire.Writer, timers []api.Timer) {
	for _, x := range timers {
		w.U8(x.Proc)
		w.U32(x.Due)
	}
}

func putFlags(w *wire.Writer, flags []bool) {
	for _, is := range flags {
		w.Flag(is)
	}
}

func putPort(w *wire.Writer, q api.Port) {
	w.U8(q.Age)
	w.U8(len(q.Msgs))
	for _, m := range q.Msgs {
		w.U8(len(m))
		w.Raw([]byte(m))
	}
}

func putPage(w *wire.Writer, q api.Page) {
	w.Flag(q.Dirty)
	w.Raw(q.Data[:])
}

// Encode: the full image of a state at rest.
func Encode(p api.Plan, s api.State) ([]byte, error) {
	recs, err := Fields(p, s)
	if err != nil {
		return nil, err
	}
	sum, err := plan.Sum(p)
	if err != nil {
		return nil, err
	}
	for _, q := range s.Pages {
		body := written(func(w *wire.Writer) { putPage(w, q) })
		recs = append(recs, wire.Rec{Tag: TagPage, Body: body})
	}
	return Pack(api.ImageFull, sum, p.Id, recs)
}

// Size: how many bytes it has.
func Size(p api.Plan, s api.State) (int, error) {
	b, err := Encode(p, s)
	return len(b), err
}
