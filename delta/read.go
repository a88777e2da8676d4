package delta

import (
	"ferry/api"
	"ferry/image"
	"ferry/plan"
	"ferry/wire"
)

// basePlace: the number of the record that tells the base.
const basePlace = 1

// Where the fields of an image's head stand, for the errors that tell it.
const (
	atKind    = 6
	atPlanSum = 12
	atId      = 16
)

// Read: the delta whose image it is.
func Read(p api.Plan, b []byte) (api.Delta, error) {
	if plan.Check(p) != nil {
		return api.Delta{}, api.ErrPlan
	}
	recs, err := image.Records(b)
	if err != nil {
		return api.Delta{}, err
	}
	if err := checkHead(p, b); err != nil {
		return api.Delta{}, err
	}
	s, err := image.Fill(recs)
	if err != nil {
		return api.Delta{}, err
	}
	s.Id = p.Id
	d := api.Delta{State: s}
	d.BaseEpoch, d.BaseSum = getBase(recs[basePlace].Body)
	if d.Index, d.Pages, err = getPages(p, recs); err != nil {
		return api.Delta{}, err
	}
	if err := Check(p, d); err != nil {
		return api.Delta{}, err
	}
	return d, nil
}

// checkHead: is it a delta image of the plan?
func checkHead(p api.Plan, b []byte) error {
	h, err := image.Look(b)
	if err != nil {
		return err
	}
	sum, err := plan.Sum(p)
	if err != nil {
		return err
	}
	switch {
	case h.Kind != api.ImageDelta:
		return placed(api.ErrKind, atKind)
	case h.PlanSum != sum:
		return placed(api.ErrPlan, atPlanSum)
	case h.Id != p.Id:
		return placed(api.ErrPlan, atId)
	}
	return nil
}

// getBase: Fill has looked at the body's length, so there is no error.
func getBase(body []byte) (int, uint32) {
	c := wire.Open(body)
	number, _ := c.U32()
	sum, _ := c.U32()
	return number, uint32(sum)
}

// getPages: the written pages and their numbers, which rise, so that no page is told twice or in another order.
func getPages(p api.Plan, recs []wire.Rec) ([]int, []api.Page, error) {
	var index []int
	var pages []api.Page
	least := 0
	for i, r := range recs {
		if r.Tag != image.TagPatch {
			continue
		}
		n := int(r.Body[0])
		if n < least || n >= len(p.Pages) {
			return nil, nil, placed(api.ErrRange, i)
		}
		q := api.Page{Rights: p.Pages[n].Rights}
		copy(q.Data[:], r.Body[1:])
		index, pages, least = append(index, n), append(pages, q), n+1
	}
	return index, pages, nil
}
