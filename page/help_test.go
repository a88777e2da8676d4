package page_test

import (
	"errors"
	"math"
	"math/rand"
	"slices"
	"testing"

	"ferry/api"
	"ferry/page"
)

// wantBare looks whether err is just that error (or none), without a place.
func wantBare(t *testing.T, what string, err, want error) {
	t.Helper()
	var at *api.At
	if api.Code(err) != api.Code(want) || errors.As(err, &at) {
		t.Errorf("%s: error %v at %d, want %v without a place", what, err, api.Place(err), want)
	}
}

// wantAt looks whether err is that error, at that place.
func wantAt(t *testing.T, what string, err, want error, place int) {
	t.Helper()
	var at *api.At
	if api.Code(err) != api.Code(want) || !errors.As(err, &at) || at.Place != place {
		t.Errorf("%s: error %v at %d, want %v at %d", what, err, api.Place(err), want, place)
	}
}

// example: the memory M of the chapter.
func example() []api.Page {
	m := []api.Page{{Rights: 5}, {Rights: 3}}
	copy(m[0].Data[:], "\x11\x22\x33\x44")
	return m
}

// oddRights: every set of the three rights, and numbers whose other bits mean nothing.
func oddRights() []int {
	return []int{0, 1, 2, 3, 4, 5, 6, 7, 8, 9, 10, 12, 256, 1 << 40, -1, -2, -3, -5, -8, math.MaxInt, math.MinInt}
}

// anyPages: n pages with any rights, marks and bytes, in a list with spare room.
func anyPages(r *rand.Rand, n int) []api.Page {
	list := make([]api.Page, n, n+3)
	for i := range list {
		rights := oddRights()
		list[i].Rights = rights[r.Intn(len(rights))]
		list[i].Dirty = r.Intn(2) == 0
		r.Read(list[i].Data[:])
	}
	spare := list[n:cap(list)]
	for i := range spare {
		spare[i] = api.Page{Rights: 7, Dirty: i == 1, Data: [api.PageSize]byte{9, 8, 7}}
	}
	return list
}

// whole: the list with its spare room.
func whole(pages []api.Page) []api.Page { return pages[:cap(pages)] }

// kept gives a look whether the list, spare room included, is what it was.
func kept(t *testing.T, pages []api.Page) func(what string) {
	was := slices.Clone(whole(pages))
	return func(what string) {
		t.Helper()
		if !slices.Equal(whole(pages), was) {
			t.Errorf("P5.3: %s: what was handed in has changed", what)
		}
	}
}

// spoil overwrites an answer, spare room included: whoever shares memory with it shows it.
func spoil(pages []api.Page) {
	all := whole(pages)
	for i := range all {
		all[i].Rights, all[i].Dirty = 77, !all[i].Dirty
		for k := range all[i].Data {
			all[i].Data[k] ^= 0xff
		}
	}
}

// someAddresses: the edges of pages and of the address space, and any others near n pages.
func someAddresses(r *rand.Rand, n int) []uint32 {
	list := []uint32{0, 1, 2, 3, 61, 62, 63, 64, 65, 126, 127, 128, math.MaxUint32, math.MaxUint32 - 1, math.MaxUint32 - 3, math.MaxUint32 - 63, 1 << 31}
	end := uint32(n * api.PageSize)
	list = append(list, end, end-1, end-2, end-4, end+1, end+4)
	for range 12 {
		list = append(list, uint32(r.Intn(n*api.PageSize+10)))
	}
	return list
}

// byteOf, rightOf: the memory asked byte by byte, without the layer's help; ok is false where no page lies.
func byteOf(pages []api.Page, addr uint64) (b byte, rights int, ok bool) {
	for i := range pages {
		first := uint64(i) * 64
		if addr >= first && addr <= first+63 && addr < 1<<32 {
			return pages[i].Data[addr-first], pages[i].Rights, true
		}
	}
	return 0, 0, false
}

// faultOf: the fault of the byte, as the chapter says it.
func faultOf(pages []api.Page, addr uint64, right int) int {
	_, rights, ok := byteOf(pages, addr)
	bit := map[int]int{api.Read: 0, api.Write: 1, api.Execute: 2}[right]
	switch {
	case !ok:
		return api.FaultPage
	case rights>>bit&1 == 1:
		return api.FaultNone
	}
	return map[int]int{api.Read: api.FaultRead, api.Write: api.FaultWrite, api.Execute: api.FaultExecute}[right]
}

// firstFault: of the n bytes from the address on.
func firstFault(pages []api.Page, addr uint32, n, right int) int {
	for k := range n {
		if f := faultOf(pages, uint64(addr)+uint64(k), right); f != api.FaultNone {
			return f
		}
	}
	return api.FaultNone
}

// laid: the pages with the bytes at the address, byte by byte.
func laid(pages []api.Page, addr uint32, data string) []api.Page {
	fresh := slices.Clone(pages)
	for k := range len(data) {
		at := uint64(addr) + uint64(k)
		fresh[at/64].Data[at%64] = data[k]
		fresh[at/64].Dirty = true
	}
	return fresh
}

// bytesOf: the lowest bytes of a number, the highest first.
func bytesOf(v uint32, size int) string {
	all := []byte{byte(v >> 24), byte(v >> 16), byte(v >> 8), byte(v)}
	return string(all[4-size:])
}

func mustIn(t *testing.T, pages []api.Page, addr uint32, data string) []api.Page {
	t.Helper()
	m, fault := page.In(pages, addr, data)
	if fault != api.FaultNone {
		t.Fatalf("In(%x, %q): fault %d", addr, data, fault)
	}
	return m
}
