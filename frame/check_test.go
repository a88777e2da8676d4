package frame_test

import (
	"math"
	"slices"
	"testing"

	"ferry/api"
	"ferry/frame"
)

// broken is a turn of the example, and what Check answers behind it.
type broken struct {
	name  string
	turn  func(c *api.Config)
	err   error
	place int
}

func wantChecks(t *testing.T, cases []broken) {
	t.Helper()
	for _, x := range cases {
		c := turned(x.turn)
		look := kept(t, c)
		want(t, "P14.1: Check with "+x.name, frame.Check(c), x.err, x.place)
		if x.err != nil {
			wantPlanError(t, c)
		}
		look(x.name)
	}
}

// TestCheckExamples: the examples 1 and 5 to 7.
func TestCheckExamples(t *testing.T) {
	wantChecks(t, []broken{
		{"nothing turned", func(c *api.Config) {}, nil, -1},
		{"Ticks 99", func(c *api.Config) { c.Ticks = 99 }, api.ErrRange, 3},
		{"two windows at a tick", func(c *api.Config) { c.Windows[1].Start = 39 }, api.ErrBusy, 1},
		{"no such partition", func(c *api.Config) { c.Windows[1].Part = 2 }, api.ErrArg, 1},
		{"no third window", func(c *api.Config) { c.Windows = slices.Delete(c.Windows, 2, 3) }, api.ErrNone, 1},
		{"the first one mobile", func(c *api.Config) { c.Parts[0].Mobile = true }, api.ErrPlan, 0},
		{"a link to itself", func(c *api.Config) { c.Links[0] = api.Link{} }, api.ErrArg, 0},
		{"a link the other way", func(c *api.Config) { c.Links[0] = api.Link{From: 1} }, api.ErrKind, 0},
		{"a link of no port", func(c *api.Config) { c.Links[0].Out = 1 }, api.ErrKind, 0},
		{"a mobile one and no window of Snap", func(c *api.Config) {
			c.Links, c.Parts[0].Mobile, c.Windows = nil, true, slices.Delete(c.Windows, 1, 2)
		}, api.ErrNone, -1},
		{"Homes 0 and 2", func(c *api.Config) { c.Homes[1] = 2 }, api.ErrRange, 1},
		{"the second one's Id 0", func(c *api.Config) { c.Parts[1].Id = 0 }, api.ErrArg, 1},
		{"the greatest Start", func(c *api.Config) { c.Windows[0].Start = math.MaxInt }, api.ErrRange, 0},
		{"the greatest Len", func(c *api.Config) { c.Windows[0] = api.Window{Start: 1, Len: math.MaxInt} }, api.ErrRange, 0},
	})
}

// TestCheckNumbers: Ticks, Tries, how many there are of each thing, Homes.
func TestCheckNumbers(t *testing.T) {
	only := func(c *api.Config) {
		c.Ticks, c.Parts, c.Homes, c.Windows, c.Links = 1, c.Parts[:1], c.Homes[:1], []api.Window{{Len: 1}}, nil
	}
	wantChecks(t, []broken{
		{"Ticks 0", func(c *api.Config) { c.Ticks = 0 }, api.ErrRange, -1},
		{"Ticks -1", func(c *api.Config) { c.Ticks = -1 }, api.ErrRange, -1},
		{"Ticks 1", only, nil, -1},
		{"Ticks 10000", func(c *api.Config) { c.Ticks = 10000 }, nil, -1},
		{"Ticks 10001", func(c *api.Config) { c.Ticks = 10001 }, api.ErrRange, -1},
		{"Tries 0", func(c *api.Config) { c.Tries = 0 }, api.ErrRange, -1},
		{"Tries 1", func(c *api.Config) { c.Tries = 1 }, nil, -1},
		{"Tries 64", func(c *api.Config) { c.Tries = 64 }, nil, -1},
		{"Tries 65", func(c *api.Config) { c.Tries = 65 }, api.ErrRange, -1},
		{"Tries -5", func(c *api.Config) { c.Tries = -5 }, api.ErrRange, -1},
		{"no partition", func(c *api.Config) { c.Parts = nil }, api.ErrSize, -1},
		{"nothing but numbers", func(c *api.Config) { *c = api.Config{Ticks: 1, Tries: 1} }, api.ErrSize, -1},
		{"8 partitions", func(c *api.Config) { many(c, 8) }, nil, -1},
		{"9 partitions", func(c *api.Config) { many(c, 9) }, api.ErrSize, -1},
		{"a Home too few", func(c *api.Config) { c.Homes = c.Homes[:1] }, api.ErrSize, -1},
		{"a Home too many", func(c *api.Config) { c.Homes = append(c.Homes, 0) }, api.ErrSize, -1},
		{"no Home", func(c *api.Config) { c.Homes = nil }, api.ErrSize, -1},
		{"Home 1", func(c *api.Config) { c.Homes[0] = 1 }, nil, -1},
		{"Home -1", func(c *api.Config) { c.Homes[0] = -1 }, api.ErrRange, 0},
		{"32 windows", func(c *api.Config) { fine(c, 32) }, nil, -1},
		{"33 windows", func(c *api.Config) { fine(c, 33) }, api.ErrSize, -1},
		{"16 links", func(c *api.Config) { c.Links = slices.Repeat(c.Links, 16) }, nil, -1},
		{"17 links", func(c *api.Config) { c.Links = slices.Repeat(c.Links, 17) }, api.ErrSize, -1},
		{"no link", func(c *api.Config) { c.Links = nil }, nil, -1},
	})
}

// many: so many partitions, each with a window of a tick.
func many(c *api.Config, n int) {
	*c = api.Config{Ticks: 100, Tries: 1}
	for i := range n {
		c.Parts = append(c.Parts, api.Plan{Id: i, Pages: make([]api.PagePlan, 1), Procs: make([]api.ProcPlan, 1)})
		c.Homes, c.Windows = append(c.Homes, i%2), append(c.Windows, api.Window{Part: i, Start: i, Len: 1})
	}
}

// fine: so many windows, by turns, with no tick between.
func fine(c *api.Config, n int) {
	c.Windows = nil
	for i := range n {
		c.Windows = append(c.Windows, api.Window{Part: i%3 - 1, Start: 2 * i, Len: 2})
	}
}

// TestCheckThings: partitions, windows, links.
func TestCheckThings(t *testing.T) {
	wantChecks(t, []broken{
		{"a plan not in form", func(c *api.Config) { c.Parts[1].Procs = nil }, api.ErrPlan, 1},
		{"a plan not in form at a place", func(c *api.Config) { c.Parts[0].Pages[0].Rights = 8 }, api.ErrPlan, 0},
		{"the first one's Id 1", func(c *api.Config) { c.Parts[0].Id = 1 }, api.ErrArg, 0},
		{"a plan whose Id isn't in form", func(c *api.Config) { c.Parts[1].Id = -1 }, api.ErrPlan, 1},
		{"a window of -2", func(c *api.Config) { c.Windows[0].Part = -2 }, api.ErrArg, 0},
		{"a window at -1", func(c *api.Config) { c.Windows[0].Start = -1 }, api.ErrRange, 0},
		{"a window of no tick", func(c *api.Config) { c.Windows[2].Len = 0 }, api.ErrRange, 2},
		{"a window of -1 ticks", func(c *api.Config) { c.Windows[2].Len = -1 }, api.ErrRange, 2},
		{"the least Start", func(c *api.Config) { c.Windows[1].Start = math.MinInt }, api.ErrRange, 1},
		{"the least Len", func(c *api.Config) { c.Windows[1].Len = math.MinInt }, api.ErrRange, 1},
		{"a window at the last tick", func(c *api.Config) { c.Windows[3] = api.Window{Start: 99, Len: 1} }, nil, -1},
		{"a window behind the last tick", func(c *api.Config) { c.Windows[3] = api.Window{Start: 100, Len: 1} }, api.ErrRange, 3},
		{"windows with no tick between", func(c *api.Config) { c.Windows[1] = api.Window{Part: -1, Start: 40, Len: 20} }, nil, -1},
		{"one tick of two windows", func(c *api.Config) { c.Windows[1].Len = 11 }, api.ErrBusy, 2},
		{"a window twice", func(c *api.Config) { c.Windows[2] = c.Windows[1] }, api.ErrBusy, 2},
		{"windows that fall", func(c *api.Config) { c.Windows[1], c.Windows[2] = c.Windows[2], c.Windows[1] }, api.ErrBusy, 2},
		{"no window of 0", func(c *api.Config) { c.Windows = c.Windows[1:3] }, api.ErrNone, 0},
		{"no window at all", func(c *api.Config) { c.Windows = nil }, api.ErrNone, 0},
		{"no window of Snap, nobody mobile", func(c *api.Config) { c.Windows = slices.Delete(c.Windows, 1, 2) }, nil, -1},
		{"the second one mobile", func(c *api.Config) { c.Parts[1].Mobile = true }, api.ErrPlan, 0},
		{"a mobile one without links", func(c *api.Config) { c.Parts[1].Mobile, c.Links = true, nil }, nil, -1},
		{"a mobile one, no link, no window of Snap", func(c *api.Config) {
			c.Parts[1].Mobile, c.Links, c.Windows[1].Part = true, nil, 0
		}, api.ErrNone, -1},
		{"a link from Snap", func(c *api.Config) { c.Links[0].From = -1 }, api.ErrArg, 0},
		{"a link to Snap", func(c *api.Config) { c.Links[0].To = -1 }, api.ErrArg, 0},
		{"a link from nowhere", func(c *api.Config) { c.Links[0].From = 2 }, api.ErrArg, 0},
		{"a link to nowhere", func(c *api.Config) { c.Links[0].To = 2 }, api.ErrArg, 0},
		{"a link from port -1", func(c *api.Config) { c.Links[0].Out = -1 }, api.ErrKind, 0},
		{"a link to port -1", func(c *api.Config) { c.Links[0].In = -1 }, api.ErrKind, 0},
		{"a link to port 1", func(c *api.Config) { c.Links[0].In = 1 }, api.ErrKind, 0},
		{"a link to a port out", func(c *api.Config) { c.Parts[1].Ports[0].Kind = api.QueueOut }, api.ErrKind, 0},
		{"a link from a port in", func(c *api.Config) { c.Parts[0].Ports[0].Kind = api.QueueIn }, api.ErrKind, 0},
		{"a link of sampling ports", func(c *api.Config) {
			c.Parts[0].Ports[0] = api.PortPlan{Kind: api.SampleOut, Size: 9, Depth: 1}
			c.Parts[1].Ports[0] = api.PortPlan{Kind: api.SampleIn, Size: 1, Depth: 1}
		}, nil, -1},
		{"a second link that is wrong", func(c *api.Config) { c.Links = append(c.Links, api.Link{From: 1, To: 1}) }, api.ErrArg, 1},
	})
}

// TestCheckOrder: of two broken rules the one that the table names first is told.
func TestCheckOrder(t *testing.T) {
	wantChecks(t, []broken{
		{"Tries and Parts", func(c *api.Config) { c.Tries, c.Parts = 0, nil }, api.ErrRange, -1},
		{"Ticks and a partition", func(c *api.Config) { c.Ticks, c.Parts[0].Id = 0, 3 }, api.ErrRange, -1},
		{"a plan and its Id", func(c *api.Config) { c.Parts[1].Id, c.Parts[1].Procs = 0, nil }, api.ErrPlan, 1},
		{"an Id and a later plan", func(c *api.Config) { c.Parts[0].Id, c.Parts[1].Procs = 1, nil }, api.ErrArg, 0},
		{"an Id and Homes", func(c *api.Config) { c.Parts[1].Id, c.Homes = 0, nil }, api.ErrArg, 1},
		{"Homes and a Home", func(c *api.Config) { c.Homes = []int{2} }, api.ErrSize, -1},
		{"a Home and Windows", func(c *api.Config) { c.Homes[0] = 2; fine(c, 33) }, api.ErrRange, 0},
		{"Windows and a window", func(c *api.Config) { fine(c, 33); c.Windows[0].Part = 7 }, api.ErrSize, -1},
		{"a window's Part and its Start", func(c *api.Config) { c.Windows[1] = api.Window{Part: 2, Start: -1} }, api.ErrArg, 1},
		{"a window's Len and its Start", func(c *api.Config) { c.Windows[1] = api.Window{Start: 39} }, api.ErrRange, 1},
		{"a window and a later one", func(c *api.Config) { c.Windows[1].Start, c.Windows[2].Part = 39, 2 }, api.ErrBusy, 1},
		{"a window and nobody's", func(c *api.Config) { c.Windows = c.Windows[:2]; c.Windows[1].Start = 39 }, api.ErrBusy, 1},
		{"no window and Links", func(c *api.Config) { c.Windows, c.Links = c.Windows[:2], make([]api.Link, 17) }, api.ErrNone, 1},
		{"Links and a link", func(c *api.Config) { c.Links = make([]api.Link, 17) }, api.ErrSize, -1},
		{"a link's ends and a mobile one", func(c *api.Config) { c.Links[0].To, c.Parts[0].Mobile = 0, true }, api.ErrArg, 0},
		{"a mobile one and a link's port", func(c *api.Config) { c.Links[0].In, c.Parts[1].Mobile = 9, true }, api.ErrPlan, 0},
		{"a link and a later one", func(c *api.Config) { c.Links = []api.Link{{From: 1, To: 0}, {From: 9}} }, api.ErrKind, 0},
		{"a link and no window of Snap", func(c *api.Config) {
			c.Parts[0].Mobile, c.Windows = true, slices.Delete(c.Windows, 1, 2)
		}, api.ErrPlan, 0},
	})
}

// TestSame: P14.1; of configurations in form and others.
func TestSame(t *testing.T) {
	for i, turn := range []func(c *api.Config){
		func(c *api.Config) { c.Ticks++ },
		func(c *api.Config) { c.Tries++ },
		func(c *api.Config) { c.Parts[1].Mobile = true },
		func(c *api.Config) { c.Parts[0].Procs[0].Prio = 1 },
		func(c *api.Config) { c.Parts = c.Parts[:1] },
		func(c *api.Config) { c.Homes[1] = 1 },
		func(c *api.Config) { c.Homes = c.Homes[:1] },
		func(c *api.Config) { c.Homes = append(c.Homes, 0) },
		func(c *api.Config) { c.Windows[3].Part = 1 },
		func(c *api.Config) { c.Windows[0].Start = 1 },
		func(c *api.Config) { c.Windows[3].Len-- },
		func(c *api.Config) { c.Windows = c.Windows[:3] },
		func(c *api.Config) { c.Windows[0], c.Windows[1] = c.Windows[1], c.Windows[0] },
		func(c *api.Config) { c.Links[0].From = 9 },
		func(c *api.Config) { c.Links[0].Out = 9 },
		func(c *api.Config) { c.Links[0].To = 9 },
		func(c *api.Config) { c.Links[0].In = 9 },
		func(c *api.Config) { c.Links = nil },
		func(c *api.Config) { c.Links = append(c.Links, c.Links[0]) },
	} {
		a, b := example(), turned(turn)
		look := kept(t, a, b)
		if frame.Same(a, b) || frame.Same(b, a) {
			t.Errorf("P14.1: Same behind turn %d", i)
		}
		if !frame.Same(b, turned(turn)) {
			t.Errorf("P14.1: not Same: two of turn %d", i)
		}
		look("Same")
	}
	empty := api.Config{Parts: []api.Plan{}, Homes: []int{}, Windows: []api.Window{}, Links: []api.Link{}}
	if !frame.Same(api.Config{}, empty) || !frame.Same(empty, api.Config{}) {
		t.Errorf("R4: nil and empty lists aren't Same")
	}
	hollow := api.Config{Parts: []api.Plan{{Pages: []api.PagePlan{}, Sems: []int{}}}}
	if !frame.Same(hollow, api.Config{Parts: make([]api.Plan, 1)}) {
		t.Errorf("R4: nil and empty lists of a plan aren't Same")
	}
	a, b := example(), example()
	b.Windows, b.Links, b.Homes = slices.Clip(b.Windows), slices.Clip(b.Links), slices.Clip(b.Homes)
	if !frame.Same(a, b) {
		t.Errorf("P14.1: spare room is seen by Same")
	}
}
