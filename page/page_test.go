package page_test

import (
	"math"
	"math/rand"
	"slices"
	"strings"
	"testing"

	"ferry/api"
	"ferry/page"
)

func TestMake(t *testing.T) {
	long := strings.Repeat("x", 65)
	for _, c := range []struct {
		what  string
		plans []api.PagePlan
		want  error
		place int
	}{
		{"rights 8", []api.PagePlan{{Rights: 8}}, api.ErrRange, 0},
		{"rights -1", []api.PagePlan{{Rights: -1}}, api.ErrRange, 0},
		{"the greatest rights", []api.PagePlan{{}, {}, {Rights: math.MaxInt}}, api.ErrRange, 2},
		{"the least rights", []api.PagePlan{{}, {Rights: math.MinInt}}, api.ErrRange, 1},
		{"65 bytes", []api.PagePlan{{}, {Rights: 1, Init: long}}, api.ErrLength, 1},
		{"both", []api.PagePlan{{Rights: 9, Init: long}}, api.ErrRange, 0},
		{"the first of two", []api.PagePlan{{Init: long}, {Rights: 8}}, api.ErrLength, 0},
		{"the last of 32", append(make([]api.PagePlan, 31), api.PagePlan{Rights: 8}), api.ErrRange, 31},
	} {
		m, err := page.Make(c.plans)
		wantAt(t, "P5.1: Make of "+c.what, err, c.want, c.place)
		if m != nil {
			t.Errorf("P5.1: Make of %s: pages beside an error", c.what)
		}
	}
	for _, plans := range [][]api.PagePlan{make([]api.PagePlan, 33), append(make([]api.PagePlan, 32), api.PagePlan{Rights: 8}), {32: {}, 0: {Rights: 8}}} {
		m, err := page.Make(plans)
		wantBare(t, "P5.1: Make of 33 plans", err, api.ErrSize)
		if m != nil {
			t.Errorf("P5.1: Make of 33 plans: pages beside an error")
		}
	}
	for _, plans := range [][]api.PagePlan{nil, {}} {
		if m, err := page.Make(plans); len(m) != 0 || err != nil {
			t.Errorf("P5.1: Make of none = %v, %v", m, err)
		}
	}
}

func TestMakeTakes(t *testing.T) {
	plans := make([]api.PagePlan, 32)
	for i := range plans {
		plans[i] = api.PagePlan{Rights: i % 8, Init: strings.Repeat(string(rune('a'+i%26)), 2*i)}
	}
	plans[5].Init, plans[6].Init = "", strings.Repeat("z", 64)
	m, err := page.Make(plans)
	if err != nil || len(m) != 32 {
		t.Fatalf("P5.1: Make of 32 plans: %d pages, %v", len(m), err)
	}
	for i, p := range plans {
		if m[i].Rights != p.Rights || m[i].Dirty || string(m[i].Data[:]) != p.Init+strings.Repeat("\x00", 64-len(p.Init)) {
			t.Errorf("P5.1: Make's page %d = %v", i, m[i])
		}
	}
}

func TestLoad(t *testing.T) {
	for _, c := range []struct {
		addr  uint32
		size  int
		v     uint32
		fault int
		want  error
	}{
		{0, 4, 0x11223344, 0, nil}, {2, 2, 0x3344, 0, nil}, {3, 1, 0x44, 0, nil}, {2, 4, 0, 2, nil}, {1, 2, 0, 2, nil},
		{0x80, 1, 0, 3, nil}, {0x81, 2, 0, 2, nil}, {0, 3, 0, 0, api.ErrArg}, {0, 0, 0, 0, api.ErrArg}, {0, -1, 0, 0, api.ErrArg},
		{0, 8, 0, 0, api.ErrArg}, {0, 5, 0, 0, api.ErrArg}, {1, 3, 0, 0, api.ErrArg}, {0x80, 16, 0, 0, api.ErrArg}, {3, 4, 0, 2, nil},
		{0, math.MaxInt, 0, 0, api.ErrArg}, {0, math.MinInt, 0, 0, api.ErrArg}, {0, 1<<32 + 1, 0, 0, api.ErrArg}, {0, 1<<32 + 4, 0, 0, api.ErrArg},
		{0xfffffffc, 4, 0, 3, nil}, {0xffffffff, 4, 0, 2, nil}, {0xffffffff, 1, 0, 3, nil},
	} {
		v, fault, err := page.Load(example(), c.addr, c.size)
		wantBare(t, "P5.1: Load", err, c.want)
		if v != c.v || fault != c.fault {
			t.Errorf("P5.1: Load(%x, %d) = %x, %d", c.addr, c.size, v, fault)
		}
	}
	if _, fault, err := page.Load(nil, 0, 1); fault != api.FaultPage || err != nil {
		t.Errorf("P5.1: Load of no pages: %d, %v", fault, err)
	}
	if _, _, err := page.Load(nil, 1, 3); api.Code(err) != api.Code(api.ErrArg) {
		t.Errorf("P5.1: Load of no pages, size 3: %v", err)
	}
}

func TestFetch(t *testing.T) {
	for _, c := range []struct {
		addr, v uint32
		fault   int
	}{{0, 0x11223344, 0}, {0x3c, 0, 0}, {0x40, 0, 6}, {2, 0, 2}, {1, 0, 2}, {3, 0, 2}, {0x42, 0, 2}, {0x80, 0, 3}, {0x82, 0, 2}, {0xfffffffc, 0, 3}} {
		if v, fault := page.Fetch(example(), c.addr); v != c.v || fault != c.fault {
			t.Errorf("P5.1: Fetch(%x) = %x, %d", c.addr, v, fault)
		}
	}
	m := []api.Page{{Rights: api.Execute, Data: [64]byte{1, 2, 3, 4}}}
	if v, fault := page.Fetch(m, 0); v != 0x01020304 || fault != api.FaultNone {
		t.Errorf("P5.1: Fetch without the right to read = %x, %d", v, fault)
	}
}

func TestOut(t *testing.T) {
	zeros := strings.Repeat("\x00", 4)
	for _, c := range []struct {
		addr  uint32
		n     int
		data  string
		fault int
		want  error
	}{
		{62, 4, zeros, 0, nil}, {0x7f, 2, "", 3, nil}, {0xfffffff0, 0, "", 0, nil}, {0, -1, "", 0, api.ErrArg}, {0, 4, "\x11\x22\x33\x44", 0, nil},
		{1, 2, "\x22\x33", 0, nil}, {0x7f, 1, "\x00", 0, nil}, {0x80, 1, "", 3, nil}, {0x80, 0, "", 0, nil}, {0xffffffff, 2, "", 3, nil},
		{0, 128, "\x11\x22\x33\x44" + strings.Repeat("\x00", 124), 0, nil}, {0, 129, "", 3, nil}, {0xffffffff, -1, "", 0, api.ErrArg},
		{0, math.MaxInt, "", 3, nil}, {0xffffffff, math.MaxInt, "", 3, nil}, {0, math.MinInt, "", 0, api.ErrArg},
	} {
		data, fault, err := page.Out(example(), c.addr, c.n)
		wantBare(t, "P5.1: Out", err, c.want)
		if data != c.data || fault != c.fault {
			t.Errorf("P5.1: Out(%x, %d) = %q, %d", c.addr, c.n, data, fault)
		}
	}
	// The lowest address that has a fault tells its own, whatever lies behind it.
	m := []api.Page{{Rights: 1}, {Rights: 6}, {Rights: 1}}
	for _, n := range []int{65, 128, 129, 192, 193, math.MaxInt} {
		if _, fault, err := page.Out(m, 0, n); fault != api.FaultRead || err != nil {
			t.Errorf("P5.1: Out of %d bytes over a page without the right: %d, %v", n, fault, err)
		}
	}
	if _, fault, err := page.Out(nil, 7, 0); fault != api.FaultNone || err != nil {
		t.Errorf("P5.1: Out of no pages and no bytes: %d, %v", fault, err)
	}
}

func TestStoreAndPoke(t *testing.T) {
	m, fault, err := page.Store(example(), 0x40, 2, 0x12345)
	if fault != 0 || err != nil || !slices.Equal(m, laid(example(), 0x40, "\x23\x45")) || !slices.Equal(page.Written(m), []int{1}) {
		t.Errorf("P5.2: Store(40, 2, 12345) = %v, %d, %v", m, fault, err)
	}
	for _, c := range []struct {
		addr  uint32
		size  int
		fault int
		want  error
	}{
		{0, 1, 5, nil}, {0xffffffff, 1, 3, nil}, {0x41, 2, 2, nil}, {0x42, 4, 2, nil}, {1, 2, 2, nil}, {0x81, 4, 2, nil}, {0x80, 4, 3, nil},
		{0x40, 3, 0, api.ErrArg}, {0x40, 0, 0, api.ErrArg}, {0x40, -4, 0, api.ErrArg}, {0x41, 8, 0, api.ErrArg}, {0x80, math.MaxInt, 0, api.ErrArg}, {0x40, math.MinInt, 0, api.ErrArg}, {0x40, 1<<32 + 2, 0, api.ErrArg},
	} {
		m, fault, err := page.Store(example(), c.addr, c.size, 0x01020304)
		wantBare(t, "P5.2: Store", err, c.want)
		p := example()
		pokeFault, pokeErr := page.Poke(p, c.addr, c.size, 0x01020304)
		wantBare(t, "P5.2: Poke", pokeErr, c.want)
		if m != nil || fault != c.fault || pokeFault != c.fault {
			t.Errorf("P5.2: Store, Poke(%x, %d) = %v, %d, %d", c.addr, c.size, m, fault, pokeFault)
		}
		if !slices.Equal(p, example()) {
			t.Errorf("P5.3: Poke(%x, %d) beside a fault or an error has changed the pages", c.addr, c.size)
		}
	}
	if m, fault, err := page.Store(nil, 0, 4, 1); m != nil || fault != api.FaultPage || err != nil {
		t.Errorf("P5.2: Store of no pages = %v, %d, %v", m, fault, err)
	}
}

// TestStoreOfTheSame: a page is dirty also where its bytes are what they were.
func TestStoreOfTheSame(t *testing.T) {
	m, fault, err := page.Store(example(), 0x44, 4, 0)
	if fault != 0 || err != nil || !m[1].Dirty || m[0].Dirty {
		t.Errorf("P5.2: Store of what is there = %v, %d, %v", m, fault, err)
	}
	p := example()
	if fault, err := page.Poke(p, 0x44, 4, 0); fault != 0 || err != nil || !slices.Equal(p, m) {
		t.Errorf("P5.2: Poke of what is there = %v, %d, %v", p, fault, err)
	}
	if m := mustIn(t, example(), 0x44, "\x00"); !m[1].Dirty || m[0].Dirty {
		t.Errorf("P5.2: In of what is there = %v", m)
	}
}

func TestIn(t *testing.T) {
	for _, c := range []struct {
		addr  uint32
		data  string
		fault int
	}{
		{0x3f, "ab", 5}, {0x7f, "ab", 3}, {0x7e, "ab", 0}, {5000, "", 0}, {0xffffffff, "", 0}, {0, "", 0}, {0, "a", 5}, {0x80, "a", 3}, {0xffffffff, "ab", 3},
		{0x40, strings.Repeat("q", 64), 0}, {0x40, strings.Repeat("q", 65), 3}, {0, strings.Repeat("q", 200), 5},
	} {
		m, fault := page.In(example(), c.addr, c.data)
		if fault != c.fault {
			t.Errorf("P5.2: In(%x, %d bytes): fault %d", c.addr, len(c.data), fault)
		}
		if fault == api.FaultNone && !slices.Equal(m, laid(example(), c.addr, c.data)) || fault != api.FaultNone && m != nil {
			t.Errorf("P5.2: In(%x, %q) = %v", c.addr, c.data, m)
		}
	}
	// Only pages that a byte was put into are dirty.
	m := mustIn(t, writable(3), 64, strings.Repeat("q", 64))
	if !slices.Equal(page.Written(m), []int{1}) {
		t.Errorf("P5.2: In of just page 1: written %v", page.Written(m))
	}
	m = mustIn(t, writable(3), 63, strings.Repeat("q", 66))
	if !slices.Equal(page.Written(m), []int{0, 1, 2}) {
		t.Errorf("P5.2: In over three pages: written %v", page.Written(m))
	}
	if _, fault := page.In([]api.Page{{Rights: 2}, {Rights: 5}, {Rights: 2}}, 0, strings.Repeat("q", 500)); fault != api.FaultWrite {
		t.Errorf("P5.2: In over a page without the right: %d", fault)
	}
}

// writable: n clean pages that may be read and written.
func writable(n int) []api.Page {
	m := make([]api.Page, n)
	for i := range m {
		m[i].Rights = api.Read | api.Write
	}
	return m
}

func TestLists(t *testing.T) {
	m := example()
	same := mustIn(t, m, 0x40, "\x00")
	list, err := page.Differ(m, same)
	if len(list) != 0 || err != nil || !page.Alike(m, same) || !slices.Equal(page.Written(same), []int{1}) {
		t.Errorf("P5.4: a page that was written with what it held: Differ %v, %v", list, err)
	}
	for _, pair := range [][2][]api.Page{{m, m[:1]}, {m[:1], m}, {nil, m}, {m, nil}} {
		list, err := page.Differ(pair[0], pair[1])
		wantBare(t, "P5.4: Differ of unlike lengths", err, api.ErrLength)
		if list != nil || page.Alike(pair[0], pair[1]) {
			t.Errorf("P5.4: lists of unlike lengths: Differ %v", list)
		}
	}
	if list, err := page.Differ(nil, []api.Page{}); len(list) != 0 || err != nil || !page.Alike(nil, []api.Page{}) {
		t.Errorf("P5.4: no pages and no pages: Differ %v, %v", list, err)
	}
	if len(page.Copy(nil)) != 0 || len(page.Clean(nil)) != 0 || len(page.Written(nil)) != 0 || len(page.Written(m)) != 0 {
		t.Errorf("P5.4: of no pages, or of clean ones, something is answered")
	}
}

// TestAlikeAndDiffer: each bit of a page's bytes counts in both, rights in Alike alone, marks in neither.
func TestAlikeAndDiffer(t *testing.T) {
	base := anyPages(rand.New(rand.NewSource(51)), 40)
	for i := range base {
		for bit := range 64 * 8 {
			other := slices.Clone(base)
			other[i].Data[bit/8] ^= 1 << (bit % 8)
			if list, err := page.Differ(base, other); !slices.Equal(list, []int{i}) || err != nil || page.Alike(base, other) {
				t.Fatalf("P5.4: bit %d of page %d turned: Differ %v, %v", bit, i, list, err)
			}
		}
		other := slices.Clone(base)
		other[i].Dirty = !other[i].Dirty
		if list, err := page.Differ(base, other); len(list) != 0 || err != nil || !page.Alike(base, other) {
			t.Errorf("P5.4: the mark of page %d turned: Differ %v, %v", i, list, err)
		}
		other[i].Rights ^= 8
		if list, err := page.Differ(base, other); len(list) != 0 || err != nil || page.Alike(base, other) {
			t.Errorf("P5.4: the rights of page %d changed: Differ %v, %v", i, list, err)
		}
	}
}

func TestCopyWrittenClean(t *testing.T) {
	r := rand.New(rand.NewSource(52))
	for n := range 70 {
		m := anyPages(r, n)
		look := kept(t, m)
		fresh, clean, written := page.Copy(m), page.Clean(m), page.Written(m)
		if !slices.Equal(fresh, m) {
			t.Errorf("P5.4: Copy of %d pages differs", n)
		}
		var dirty []int
		want := slices.Clone(m)
		for i := range m {
			if m[i].Dirty {
				dirty = append(dirty, i)
			}
			want[i].Dirty = false
		}
		if !slices.Equal(written, dirty) || !slices.Equal(clean, want) || len(page.Written(clean)) != 0 || !page.Alike(clean, m) {
			t.Errorf("P5.4: of %d pages: Written %v, want %v", n, written, dirty)
		}
		look("Copy, Clean, Written")
		spoil(fresh)
		spoil(clean)
		look("an answer of Copy or Clean overwritten")
		again := page.Copy(m)
		if !slices.Equal(again, m) {
			t.Errorf("P5.4: a second Copy of %d pages differs", n)
		}
	}
}
