package job

import (
	"slices"
	"testing"

	"ferry/api"
	"ferry/delta"
	"ferry/image"
	"ferry/plan"
)

// TestCut: each unit is just what it is called, which no answer shows: a unit's first byte is its first record's tag, and its length is that of its records.
func TestCut(t *testing.T) {
	p := api.Plan{
		Id: 2, Procs: []api.ProcPlan{{Auto: true}, {Entry: 4}}, Ports: []api.PortPlan{{Kind: api.QueueIn, Size: 4, Depth: 2}}, Events: 3, Sems: []int{1, 2},
		Pages: []api.PagePlan{{Rights: 5}, {Rights: 3}, {Rights: 1}},
	}
	s, err := plan.Boot(p)
	if err != nil {
		t.Fatal(err)
	}
	s.Pages[1].Dirty = true
	b, err := image.Encode(p, s)
	if err != nil {
		t.Fatal(err)
	}
	lists := 3 + 1 + 3 + 3 + 3 + 3 + 2
	wantUnits(t, b, []byte{'F', 3, 3, 4, 8, 9, 9, 9}, 20+11, 71, 71, lists, 5, 68, 68, 68, 4)
	b, err = delta.Make(p, s, 77)
	if err != nil {
		t.Fatal(err)
	}
	wantUnits(t, b, []byte{'F', 3, 3, 4, 8, 10}, 20+11+11, 71, 71, lists, 5, 68, 4)
}

// wantUnits: the first byte of each unit but the sum, and the length of each.
func wantUnits(t *testing.T, b, first []byte, lengths ...int) {
	t.Helper()
	recs, err := image.Records(b)
	if err != nil {
		t.Fatal(err)
	}
	units := cut(b, recs)
	if len(units) != len(lengths) || !slices.Equal(slices.Concat(units...), b) {
		t.Fatalf("P19.1: units %x of %x", units, b)
	}
	for i, unit := range units {
		if len(unit) != lengths[i] || i < len(first) && unit[0] != first[i] {
			t.Errorf("P19.1: unit %d is %x", i, unit)
		}
	}
}
