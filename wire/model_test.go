package wire_test

import (
	"errors"
	"math/rand"
	"reflect"
	"testing"

	"ferry/api"
	"ferry/wire"
)

// model is a cursor as the chapter tells it: the bytes that are left, and where they begin.
type model struct {
	left  []byte
	place int
}

// told is what a call answers, and where the cursor stands behind it.
type told struct {
	value    any
	code     int
	at       int
	opens    bool
	place    int
	leftOver int
}

func big(b []byte) int {
	n := 0
	for _, c := range b {
		n = n*256 + int(c)
	}
	return n
}

// take moves the model on.
func (m *model) take(n int) []byte {
	b := m.left[:n]
	m.left, m.place = m.left[n:], m.place+n
	return b
}

// ranged: codes 1 short, 4 range, 12 argument.
func (m *model) ranged(width, lo, hi int) (int, int, int) {
	switch {
	case width != 1 && width != 2 && width != 4:
		return 0, 12, -1
	case len(m.left) < width:
		return 0, 1, m.place
	case big(m.left[:width]) < lo, big(m.left[:width]) > hi:
		return 0, 4, m.place
	}
	return big(m.take(width)), 0, -1
}

func (m *model) text(most int) (string, int, int) {
	switch {
	case len(m.left) < 2:
		return "", 1, m.place
	case big(m.left[:2]) > most:
		return "", 5, m.place
	case big(m.left[:2]) > len(m.left)-2:
		return "", 1, m.place + 2
	}
	return string(m.take(2 + big(m.left[:2]))[2:]), 0, -1
}

// record: any tag, if want is below 0.
func (m *model) record(want int) (int, *model, int, int) {
	switch {
	case len(m.left) < 3:
		return 0, nil, 1, m.place
	case m.left[0] == 0, want >= 0 && int(m.left[0]) != want:
		return 0, nil, 3, m.place
	case big(m.left[1:3]) > len(m.left)-3:
		return 0, nil, 5, m.place + 1
	}
	begin := m.place + 3
	b := m.take(3 + big(m.left[1:3]))
	return int(b[0]), &model{left: b[3:], place: begin}, 0, -1
}

// both is a cursor and its model.
type both struct {
	c *wire.Cursor
	m *model
}

// mostNumber is the greatest number of that width.
func mostNumber(width int) int { return 1<<(8*width) - 1 }

// step does one call on both; opened is a cursor over a body, if there is one.
func (p both) step(r *rand.Rand) (got, want told, opened both) {
	var err error
	switch kind := r.Intn(8); kind {
	case 0:
		width := []int{1, 2, 4}[r.Intn(3)]
		got.value, err = []func() (int, error){p.c.U8, p.c.U16, p.c.U32}[width/2]()
		want.value, want.code, want.at = p.m.ranged(width, 0, mostNumber(width))
	case 1:
		got.value, err = p.c.Flag()
		n, code, at := p.m.ranged(1, 0, 1)
		want.value, want.code, want.at = n == 1, code, at
	case 2:
		width, lo := r.Intn(6)-1, r.Intn(5)-2
		hi := lo + r.Intn(600) - 1
		got.value, err = p.c.Ranged(width, lo, hi)
		want.value, want.code, want.at = p.m.ranged(width, lo, hi)
	case 3:
		got, want, err = p.raw(r.Intn(6) - 1)
	case 4:
		most := r.Intn(8) - 1
		got.value, err = p.c.Text(most)
		want.value, want.code, want.at = p.m.text(most)
	case 5:
		got.value, opened.c, err = p.c.Next()
		want.value, opened.m, want.code, want.at = p.m.record(-1)
	case 6:
		tag := r.Intn(4)
		opened.c, err = p.c.Record(tag)
		_, opened.m, want.code, want.at = p.m.record(tag)
	case 7:
		err = p.c.End()
		want.code, want.at = 0, -1
		if len(p.m.left) > 0 {
			want.code, want.at = 2, p.m.place
		}
	}
	got.code, got.at = api.Code(err), api.Place(err)
	got.opens, got.place, got.leftOver = opened.c != nil, p.c.At(), p.c.Left()
	want.opens, want.place, want.leftOver = opened.m != nil, p.m.place, len(p.m.left)
	return got, want, opened
}

func (p both) raw(n int) (got, want told, err error) {
	b, err := p.c.Raw(n)
	got.value = string(b)
	want.value, want.code, want.at = "", 0, -1
	switch {
	case n < 0:
		want.code = 12
	case n > len(p.m.left):
		want.code, want.at = 1, p.m.place
	default:
		want.value = string(p.m.take(n))
	}
	return got, want, err
}

// likelyBytes are mostly small numbers, so that lengths and tags are often right.
func likelyBytes(r *rand.Rand, n int) []byte {
	b := make([]byte, n)
	for i := range b {
		switch r.Intn(8) {
		case 0:
			b[i] = byte(r.Intn(256))
		case 1, 2, 3:
			b[i] = byte(r.Intn(4))
		}
	}
	return b
}

func TestCursorsAreTheirModel(t *testing.T) {
	r := rand.New(rand.NewSource(31))
	for round := 0; round < 4000; round++ {
		b := likelyBytes(r, r.Intn(40))
		all := []both{{wire.Open(b), &model{left: b}}}
		for range 25 {
			p := all[r.Intn(len(all))]
			got, want, opened := p.step(r)
			if !reflect.DeepEqual(got, want) {
				t.Fatalf("P2.2: of %x: %+v, want %+v", b, got, want)
			}
			if opened.c != nil {
				all = append(all, opened)
			}
			for _, p := range all {
				if p.c.At() != p.m.place || p.c.Left() != len(p.m.left) {
					t.Fatalf("P2.2: of %x: a cursor at %d with %d left, want %d, %d", b, p.c.At(), p.c.Left(), p.m.place, len(p.m.left))
				}
			}
		}
	}
}

// field is a put, and the reading that gets it back.
type field struct {
	put  func(w *wire.Writer)
	read func(c *wire.Cursor) (any, error)
	want any
}

func randomField(r *rand.Rand) field {
	body := randomBytes(r, r.Intn(5))
	tag := 1 + r.Intn(255)
	n8, n16, n32, yes := r.Intn(256), r.Intn(65536), r.Intn(1<<32), r.Intn(2) == 1
	return []field{
		{u8(n8), func(c *wire.Cursor) (any, error) { return c.U8() }, n8},
		{u16(n16), func(c *wire.Cursor) (any, error) { return c.U16() }, n16},
		{u32(n32), func(c *wire.Cursor) (any, error) { return c.U32() }, n32},
		{u32(n16), func(c *wire.Cursor) (any, error) { return c.Ranged(4, n16, n16) }, n16},
		{flag(yes), func(c *wire.Cursor) (any, error) { return c.Flag() }, yes},
		{raw(string(body)), func(c *wire.Cursor) (any, error) {
			b, err := c.Raw(len(body))
			return string(b), err
		}, string(body)},
		{text(string(body)), func(c *wire.Cursor) (any, error) { return c.Text(len(body)) }, string(body)},
		{record(tag, string(body)), func(c *wire.Cursor) (any, error) {
			in, err := c.Record(tag)
			if err != nil {
				return "", err
			}
			b, err := in.Raw(in.Left())
			return string(b), err
		}, string(body)},
	}[r.Intn(8)]
}

// readBack reads the fields; the first error stops it.
func readBack(t *testing.T, c *wire.Cursor, fields []field) error {
	t.Helper()
	for _, f := range fields {
		got, err := f.read(c)
		if err != nil {
			return err
		}
		if got != f.want {
			t.Fatalf("P2.3: %v is read back as %v", f.want, got)
		}
	}
	return nil
}

func TestWhatWasPutIsReadBack(t *testing.T) {
	r := rand.New(rand.NewSource(32))
	for round := 0; round < 2000; round++ {
		w := wire.NewWriter()
		var fields []field
		for range r.Intn(8) {
			f := randomField(r)
			f.put(w)
			fields = append(fields, f)
		}
		b, err := w.Done()
		if err != nil || len(b) != w.Size() {
			t.Fatalf("P2.3: Done: %v, %d bytes, Size %d", err, len(b), w.Size())
		}
		c := wire.Open(b)
		if err := readBack(t, c, fields); err != nil || c.End() != nil {
			t.Fatalf("P2.3: %x is read back with %v, End %v", b, err, c.End())
		}
		if len(b) > 0 {
			err := readBack(t, wire.Open(b[:len(b)-1]), fields)
			if !errors.Is(err, api.ErrShort) && !errors.Is(err, api.ErrLength) {
				t.Fatalf("P2.3: %x without its last byte: %v", b, err)
			}
		}
		c = wire.Open(append(b, byte(r.Intn(256))))
		if err := readBack(t, c, fields); err != nil {
			t.Fatalf("P2.3: %x with a byte more: %v", b, err)
		}
		wantAt(t, "P2.3: End with a byte more", c.End(), api.ErrRest, len(b))
	}
}
