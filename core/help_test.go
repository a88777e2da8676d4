package core_test

import (
	"errors"
	"math/rand"
	"slices"
	"testing"

	"ferry/api"
	"ferry/core"
	"ferry/isa"
)

// wantBare looks whether err is just that error (or none), without a place.
func wantBare(t *testing.T, what string, err, want error) {
	t.Helper()
	var at *api.At
	if api.Code(err) != api.Code(want) || errors.As(err, &at) {
		t.Errorf("%s: error %v at %d, want %v without a place", what, err, api.Place(err), want)
	}
}

// memory: the memory M of the chapter, whose page 0 begins with the lines of the text.
func memory(t *testing.T, source string) []api.Page {
	t.Helper()
	m := []api.Page{{Rights: api.Read | api.Execute}, {Rights: api.Read | api.Write}}
	words, err := isa.Assemble(source)
	if err != nil {
		t.Fatalf("%q: %v", source, err)
	}
	copy(m[0].Data[:], isa.Bytes(words))
	return m
}

// at: a process at that Pc, its registers 1 and on as given.
func at(pc uint32, regs ...uint32) api.Proc {
	p := api.Proc{Pc: pc}
	copy(p.Regs[1:], regs)
	return p
}

func whole(pages []api.Page) []api.Page { return pages[:cap(pages)] }

// spoil overwrites an answer, spare room included: whoever shares memory with it shows it.
func spoil(pages []api.Page) {
	all := whole(pages)
	for i := range all {
		all[i] = api.Page{Rights: 77, Dirty: !all[i].Dirty, Data: [64]byte{0: all[i].Data[0] ^ 255, 63: 1}}
	}
}

// roomy: the pages in a list with spare room behind them.
func roomy(pages []api.Page) []api.Page {
	list := make([]api.Page, len(pages), len(pages)+2)
	copy(list, pages)
	for i := len(list); i < cap(list); i++ {
		whole(list)[i] = api.Page{Rights: 7, Data: [64]byte{1, 2, 3}}
	}
	return list
}

// wantStep looks at one Step from p: the process and the stop behind it, and the pages, which are as they were unless changed is given.
func wantStep(t *testing.T, what string, m []api.Page, p, want api.Proc, stop api.Stop, changed ...api.Page) {
	t.Helper()
	pages, q, s := core.Step(m, p)
	if q != want || s != stop {
		t.Errorf("P6.1: %s: %v, %v, want %v, %v", what, q, s, want, stop)
	}
	if changed == nil {
		changed = m
	}
	if !slices.Equal(pages, changed) {
		t.Errorf("P6.1: %s: the pages are %v", what, pages)
	}
	again, o, s := core.Run(m, p, 1)
	if o != q || s != stop || !slices.Equal(again, pages) {
		t.Errorf("P6.2: %s: Run for one step answers otherwise than Step", what)
	}
}

// stepped, called, faulted: the stop of one instruction.
func stepped() api.Stop { return api.Stop{Kind: api.StopSteps, Steps: 1} }

func called(n int) api.Stop { return api.Stop{Kind: api.StopCall, Steps: 1, Code: n} }

func faulted(n int) api.Stop { return api.Stop{Kind: api.StopFault, Steps: 1, Code: n} }

// with: the process with the register set, and its Pc.
func with(p api.Proc, reg int, v, pc uint32) api.Proc {
	p.Regs[reg], p.Pc = v, pc
	return p
}

// someWord: one at which arithmetic turns, or any other.
func someWord(r *rand.Rand) uint32 {
	edges := []uint32{0, 1, 2, 31, 32, 63, 64, 65, 66, 68, 127, 128, 255, 256, 0x7fffffff, 0x80000000, 0x80000001, 0xfffffffc, 0xfffffffe, 0xffffffff}
	switch r.Intn(3) {
	case 0:
		return r.Uint32()
	case 1:
		return uint32(r.Intn(400))
	}
	return edges[r.Intn(len(edges))]
}
