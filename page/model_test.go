package page_test

import (
	"math/rand"
	"slices"
	"testing"

	"ferry/api"
	"ferry/page"
)

// wantFault: the fault of a number of size bytes at the address.
func wantFault(pages []api.Page, addr uint32, size, right int) int {
	if int(addr)%size != 0 {
		return api.FaultAlign
	}
	return faultOf(pages, uint64(addr), right)
}

// TestNumbersAgainstTheBytes holds Load, Fetch, Store and Poke against the memory asked byte by byte.
func TestNumbersAgainstTheBytes(t *testing.T) {
	r := rand.New(rand.NewSource(53))
	for round := range 60 {
		m := anyPages(r, 1+round)
		look := kept(t, m)
		for _, addr := range someAddresses(r, len(m)) {
			for _, size := range []int{1, 2, 4} {
				againstLoad(t, m, addr, size)
				againstStore(t, m, addr, size, r.Uint32())
			}
			againstFetch(t, m, addr)
			look("Load, Fetch, Store")
		}
	}
}

func againstLoad(t *testing.T, m []api.Page, addr uint32, size int) {
	t.Helper()
	want, fault := uint32(0), wantFault(m, addr, size, api.Read)
	for k := range size {
		b, _, _ := byteOf(m, uint64(addr)+uint64(k))
		want = want*256 + uint32(b)
	}
	if fault != api.FaultNone {
		want = 0
	}
	if v, f, err := page.Load(m, addr, size); v != want || f != fault || err != nil {
		t.Errorf("P5.1: Load(%x, %d) = %x, %d, %v, want %x, %d", addr, size, v, f, err, want, fault)
	}
}

func againstFetch(t *testing.T, m []api.Page, addr uint32) {
	t.Helper()
	want, fault := uint32(0), wantFault(m, addr, 4, api.Execute)
	for k := range 4 {
		b, _, _ := byteOf(m, uint64(addr)+uint64(k))
		want = want*256 + uint32(b)
	}
	if fault != api.FaultNone {
		want = 0
	}
	if v, f := page.Fetch(m, addr); v != want || f != fault {
		t.Errorf("P5.1: Fetch(%x) = %x, %d, want %x, %d", addr, v, f, want, fault)
	}
}

func againstStore(t *testing.T, m []api.Page, addr uint32, size int, v uint32) {
	t.Helper()
	look := kept(t, m)
	fault := wantFault(m, addr, size, api.Write)
	poked := slices.Clone(m)
	pokeFault, pokeErr := page.Poke(poked, addr, size, v)
	got, f, err := page.Store(m, addr, size, v)
	if f != fault || err != nil || pokeFault != fault || pokeErr != nil {
		t.Errorf("P5.2: Store, Poke(%x, %d): %d, %v, %d, %v, want %d", addr, size, f, err, pokeFault, pokeErr, fault)
		return
	}
	if fault != api.FaultNone {
		if got != nil || !slices.Equal(poked, m) {
			t.Errorf("P5.3: Store or Poke(%x, %d) beside a fault has changed something", addr, size)
		}
		return
	}
	want := laid(m, addr, bytesOf(v, size))
	if !slices.Equal(got, want) || !slices.Equal(poked, want) {
		t.Errorf("P5.2: Store or Poke(%x, %d, %x) isn't the bytes laid down", addr, size, v)
	}
	back, f, err := page.Load(got, addr, size)
	if faultOf(m, uint64(addr), api.Read) == api.FaultNone && (back != uint32(uint64(v)%(1<<(8*size))) || f != 0 || err != nil) {
		t.Errorf("P5.2: Load behind Store(%x, %d, %x) = %x, %d, %v", addr, size, v, back, f, err)
	}
	spoil(got)
	look("an answer of Store overwritten")
}

// TestBytesAgainstTheBytes holds Out and In against the memory asked byte by byte.
func TestBytesAgainstTheBytes(t *testing.T) {
	r := rand.New(rand.NewSource(54))
	for round := range 60 {
		m := anyPages(r, 1+round)
		if round%2 == 0 {
			for i := range m {
				m[i].Rights |= api.Read | api.Write
			}
		}
		look := kept(t, m)
		for _, addr := range someAddresses(r, len(m)) {
			n := []int{0, 1, 2, 63, 64, 65, 128, r.Intn(400)}[r.Intn(8)]
			againstOut(t, m, addr, n)
			data := make([]byte, n)
			r.Read(data)
			againstIn(t, m, addr, string(data))
			look("Out, In")
		}
	}
}

func againstOut(t *testing.T, m []api.Page, addr uint32, n int) {
	t.Helper()
	fault := firstFault(m, addr, n, api.Read)
	var want []byte
	for k := 0; k < n && fault == api.FaultNone; k++ {
		b, _, _ := byteOf(m, uint64(addr)+uint64(k))
		want = append(want, b)
	}
	if s, f, err := page.Out(m, addr, n); s != string(want) || f != fault || err != nil {
		t.Errorf("P5.1: Out(%x, %d) = %q, %d, %v, want %q, %d", addr, n, s, f, err, want, fault)
	}
}

func againstIn(t *testing.T, m []api.Page, addr uint32, data string) {
	t.Helper()
	look := kept(t, m)
	fault := firstFault(m, addr, len(data), api.Write)
	got, f := page.In(m, addr, data)
	if f != fault {
		t.Errorf("P5.2: In(%x, %d bytes): fault %d, want %d", addr, len(data), f, fault)
		return
	}
	if fault != api.FaultNone {
		if got != nil {
			t.Errorf("P5.2: In(%x, %d bytes): pages beside a fault", addr, len(data))
		}
		return
	}
	if !slices.Equal(got, laid(m, addr, data)) {
		t.Errorf("P5.2: In(%x, %q) isn't the bytes laid down", addr, data)
	}
	spoil(got)
	look("an answer of In overwritten")
}

// TestWhatDiffersWasWritten: P5.4, over rows of Stores and Ins on a clean list.
func TestWhatDiffersWasWritten(t *testing.T) {
	r := rand.New(rand.NewSource(55))
	for round := range 300 {
		first := page.Clean(anyPages(r, 1+round%33))
		m := first
		for range r.Intn(12) {
			addr := uint32(r.Intn(len(m) * 64))
			data := bytesOf(r.Uint32(), 1+r.Intn(4))
			if next, fault := page.In(m, addr, data); fault == api.FaultNone {
				m = next
			}
			if next, fault, err := page.Store(m, addr&^3, 4, r.Uint32()); fault == api.FaultNone && err == nil {
				m = next
			}
		}
		unlike, err := page.Differ(first, m)
		written := page.Written(m)
		if err != nil {
			t.Fatal(err)
		}
		for _, i := range unlike {
			if !slices.Contains(written, i) {
				t.Errorf("P5.4: page %d differs and isn't written (%v)", i, written)
			}
		}
		for _, i := range written {
			if m[i].Rights&api.Write == 0 {
				t.Errorf("P5.2: page %d was written without the right", i)
			}
		}
	}
}

// TestPokeLeavesSpareRoom: Poke changes the one page, and nothing behind the list.
func TestPokeLeavesSpareRoom(t *testing.T) {
	m := anyPages(rand.New(rand.NewSource(56)), 4)
	m[2].Rights = api.Write
	was := slices.Clone(whole(m))
	if fault, err := page.Poke(m, 191, 1, 0x1234); fault != 0 || err != nil {
		t.Fatalf("P5.2: Poke: %d, %v", fault, err)
	}
	was[2].Data[63], was[2].Dirty = 0x34, true
	if !slices.Equal(whole(m), was) {
		t.Errorf("P5.3: Poke has changed more than its byte and mark")
	}
	// A page in the spare room is none of the list's.
	if fault, err := page.Poke(m, 256, 1, 1); fault != api.FaultPage || err != nil || !slices.Equal(whole(m), was) {
		t.Errorf("P5.3: Poke behind the list: %d, %v", fault, err)
	}
}
