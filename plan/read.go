package plan

import (
	"slices"

	"ferry/api"
	"ferry/crc"
	"ferry/wire"
)

// Read: the plan of the bytes.
func Read(b []byte) (api.Plan, error) {
	inner, err := crc.Open(b)
	if err != nil {
		return api.Plan{}, err
	}
	if len(inner) < headSize {
		return api.Plan{}, api.ErrShort
	}
	if string(inner[:len(kind)]) != kind {
		return api.Plan{}, api.ErrKind
	}
	c := wire.Open(inner[len(kind):])
	if size, err := c.U32(); err != nil || size != len(b) {
		return api.Plan{}, api.ErrLength
	}
	// What is longer than any plan's bytes needn't be gone through.
	if len(b) > mostSize {
		return api.Plan{}, api.ErrPlan
	}
	p, err := readPlan(c)
	if err != nil || !isOf(b, p) {
		return api.Plan{}, api.ErrPlan
	}
	return p, nil
}

// isOf: are these the plan's bytes? So the readers below need only find what would be there, not every fault.
func isOf(b []byte, p api.Plan) bool {
	own, err := Bytes(p)
	return err == nil && slices.Equal(own, b)
}

func readPlan(c *wire.Cursor) (p api.Plan, err error) {
	if p.Id, err = c.U32(); err != nil {
		return p, err
	}
	if p.Mobile, err = c.Flag(); err != nil {
		return p, err
	}
	if p.Pages, err = readEach(c, tagPage, readPage); err != nil {
		return p, err
	}
	if p.Procs, err = readEach(c, tagProc, readProc); err != nil {
		return p, err
	}
	if p.Ports, err = readEach(c, tagPort, readPort); err != nil {
		return p, err
	}
	if p.Events, err = readEvents(c); err != nil {
		return p, err
	}
	p.Sems, err = readSems(c)
	return p, err
}

// readEach: the things of all records with that tag that come next.
func readEach[T any](c *wire.Cursor, tag int, read func(*wire.Cursor) (T, error)) ([]T, error) {
	var all []T
	for {
		body, err := c.Record(tag)
		if err != nil {
			// Another record comes, which is for the next reader.
			return all, nil
		}
		x, err := read(body)
		if err != nil {
			return nil, err
		}
		all = append(all, x)
	}
}

func readPage(c *wire.Cursor) (api.PagePlan, error) {
	rights, err := c.U8()
	if err != nil {
		return api.PagePlan{}, err
	}
	first, err := c.Raw(c.Left())
	return api.PagePlan{Rights: rights, Init: string(first)}, err
}

func readProc(c *wire.Cursor) (p api.ProcPlan, err error) {
	if p.Entry, err = c.U32(); err != nil {
		return p, err
	}
	if p.Prio, err = c.U8(); err != nil {
		return p, err
	}
	p.Auto, err = c.Flag()
	return p, err
}

func readPort(c *wire.Cursor) (p api.PortPlan, err error) {
	for _, field := range []*int{&p.Kind, &p.Size, &p.Depth, &p.Refresh} {
		if *field, err = c.U8(); err != nil {
			return p, err
		}
	}
	return p, nil
}

func readEvents(c *wire.Cursor) (int, error) {
	body, err := c.Record(tagEvents)
	if err != nil {
		return 0, err
	}
	return body.U8()
}

func readSems(c *wire.Cursor) ([]int, error) {
	body, err := c.Record(tagSems)
	if err != nil {
		return nil, err
	}
	counts, err := body.Raw(body.Left())
	var sems []int
	for _, count := range counts {
		sems = append(sems, int(count))
	}
	return sems, err
}
