package plan

import (
	"ferry/api"
	"ferry/crc"
	"ferry/wire"
)

const (
	// kind is what a plan's bytes begin with: their name and their version.
	kind = "FPLN\x00\x01"
	// headSize is the number of bytes ahead of the records.
	headSize = 15
	// sumSize is the number of bytes of the sum.
	sumSize = 4
	// recSize is the number of bytes of a record ahead of its body.
	recSize = 3
	// mostSize is the length of the longest plan's bytes.
	mostSize = headSize + sumSize +
		api.MaxPages*(recSize+1+api.PageSize) + api.MaxProcs*(recSize+6) + api.MaxPorts*(recSize+4) +
		recSize + 1 + recSize + api.MaxSems
)

// The records' tags.
const (
	tagPage   = 1
	tagProc   = 2
	tagPort   = 3
	tagEvents = 4
	tagSems   = 5
)

// Bytes: the plan's bytes, sealed.
func Bytes(p api.Plan) ([]byte, error) {
	b, err := unsealed(p)
	if err != nil {
		return nil, err
	}
	return crc.Seal(b), nil
}

// Sum: the plan's sum.
func Sum(p api.Plan) (uint32, error) {
	b, err := unsealed(p)
	if err != nil {
		return 0, err
	}
	return crc.Sum(b), nil
}

// unsealed: the plan's bytes without their sum.
func unsealed(p api.Plan) ([]byte, error) {
	if Check(p) != nil {
		return nil, api.ErrPlan
	}
	recs, err := wire.Join(records(p))
	if err != nil {
		return nil, api.ErrPlan
	}
	return fields(func(w *wire.Writer) {
		w.Raw([]byte(kind))
		w.U32(headSize + len(recs) + sumSize)
		w.U32(p.Id)
		w.Flag(p.Mobile)
		w.Raw(recs)
	}), nil
}

// fields: what is put. Every field of a plan in form fits its width, so there is no error.
func fields(put func(*wire.Writer)) []byte {
	w := wire.NewWriter()
	put(w)
	b, _ := w.Done()
	return b
}

func records(p api.Plan) []wire.Rec {
	var recs []wire.Rec
	add := func(tag int, put func(*wire.Writer)) {
		recs = append(recs, wire.Rec{Tag: tag, Body: fields(put)})
	}
	for _, q := range p.Pages {
		add(tagPage, func(w *wire.Writer) {
			w.U8(q.Rights)
			w.Raw([]byte(q.Init))
		})
	}
	for _, q := range p.Procs {
		add(tagProc, func(w *wire.Writer) {
			w.U32(q.Entry)
			w.U8(q.Prio)
			w.Flag(q.Auto)
		})
	}
	for _, q := range p.Ports {
		add(tagPort, func(w *wire.Writer) {
			w.U8(q.Kind)
			w.U8(q.Size)
			w.U8(q.Depth)
			w.U8(q.Refresh)
		})
	}
	add(tagEvents, func(w *wire.Writer) { w.U8(p.Events) })
	add(tagSems, func(w *wire.Writer) {
		for _, count := range p.Sems {
			w.U8(count)
		}
	})
	return recs
}
