package wire_test

import (
	"bytes"
	"math"
	"strings"
	"testing"

	"ferry/api"
	"ferry/wire"
)

// wantPlace looks where a cursor stands.
func wantPlace(t *testing.T, what string, c *wire.Cursor, at, left int) {
	t.Helper()
	if c.At() != at || c.Left() != left {
		t.Errorf("%s: At %d, Left %d, want %d, %d", what, c.At(), c.Left(), at, left)
	}
}

func TestCursorNumbers(t *testing.T) {
	c := wire.Open([]byte{1, 2, 3})
	if n, err := c.U16(); n != 258 || err != nil {
		t.Errorf("P2.2: U16 = %d, %v", n, err)
	}
	wantPlace(t, "P2.2: behind U16", c, 2, 1)
	n, err := c.U16()
	wantAt(t, "P2.2: U16 of one byte", err, api.ErrShort, 2)
	m, err := c.U32()
	wantAt(t, "P2.2: U32 of one byte", err, api.ErrShort, 2)
	if n != 0 || m != 0 {
		t.Errorf("P2.2: %d, %d beside an error", n, m)
	}
	wantPlace(t, "P2.2: behind a refused U32", c, 2, 1)
	wantAt(t, "P2.2: End with one byte left", c.End(), api.ErrRest, 2)
	if n, err := c.U8(); n != 3 || err != nil || c.End() != nil {
		t.Errorf("P2.2: U8 = %d, %v, End %v", n, err, c.End())
	}
	_, err = c.U8()
	wantAt(t, "P2.2: U8 of nothing", err, api.ErrShort, 3)
	c = wire.Open([]byte{255, 255, 255, 255, 128, 0, 0, 1})
	for _, want := range []int{4294967295, 2147483649} {
		if n, err := c.U32(); n != want || err != nil {
			t.Errorf("P2.2: U32 = %d, %v, want %d", n, err, want)
		}
	}
	for n := range 4 {
		c := wire.Open(make([]byte, n))
		_, err := c.U32()
		wantAt(t, "P2.2: U32 of too few bytes", err, api.ErrShort, 0)
		wantPlace(t, "P2.2: behind it", c, 0, n)
	}
}

func TestCursorFlagAndRanged(t *testing.T) {
	c := wire.Open([]byte{2})
	b, err := c.Flag()
	wantAt(t, "P2.2: Flag of 2", err, api.ErrRange, 0)
	if b {
		t.Error("P2.2: true beside an error")
	}
	for _, r := range [][2]int{{3, 9}, {0, 1}, {3, 1}, {math.MaxInt, math.MinInt}, {-5, -1}} {
		n, err := c.Ranged(1, r[0], r[1])
		wantAt(t, "P2.2: Ranged", err, api.ErrRange, 0)
		if n != 0 {
			t.Errorf("P2.2: Ranged = %d beside an error", n)
		}
	}
	for _, width := range []int{2, 4} {
		_, err = c.Ranged(width, 9, 0)
		wantAt(t, "P2.2: Ranged of too few bytes", err, api.ErrShort, 0)
	}
	for _, width := range []int{3, 0, -1, 5, 8, math.MinInt, math.MaxInt} {
		_, err = c.Ranged(width, 0, 9)
		wantBare(t, "P2.2: Ranged of no width", err, api.ErrArg)
	}
	wantPlace(t, "P2.2: behind refused calls", c, 0, 1)
	if n, err := c.Ranged(1, 2, 2); n != 2 || err != nil {
		t.Errorf("P2.2: Ranged(1, 2, 2) = %d, %v", n, err)
	}
	_, err = c.Ranged(3, 0, 9)
	wantBare(t, "P2.2: Ranged of no width at the end", err, api.ErrArg)
	_, err = c.Flag()
	wantAt(t, "P2.2: Flag of nothing", err, api.ErrShort, 1)
	c = wire.Open([]byte{0, 1, 255, 1, 0, 1, 0, 0})
	for _, want := range []bool{false, true} {
		if b, err := c.Flag(); b != want || err != nil {
			t.Errorf("P2.2: Flag = %v, %v, want %v", b, err, want)
		}
	}
	_, err = c.Flag()
	wantAt(t, "P2.2: Flag of 255", err, api.ErrRange, 2)
	if n, err := c.Ranged(2, math.MinInt, math.MaxInt); n != 0xff01 || err != nil {
		t.Errorf("P2.2: Ranged of two bytes = %x, %v", n, err)
	}
	_, err = c.Ranged(4, 256, 65535)
	wantAt(t, "P2.2: Ranged of four bytes", err, api.ErrRange, 4)
	if n, err := c.Ranged(4, 65536, 65536); n != 65536 || err != nil {
		t.Errorf("P2.2: Ranged of four bytes = %x, %v", n, err)
	}
}

func TestCursorRaw(t *testing.T) {
	c := wire.Open([]byte("abc"))
	for _, n := range []int{-1, math.MinInt} {
		b, err := c.Raw(n)
		wantBare(t, "P2.2: Raw of less than nothing", err, api.ErrArg)
		if b != nil {
			t.Errorf("P2.2: Raw(%d) = %x beside an error", n, b)
		}
	}
	if b, err := c.Raw(0); len(b) != 0 || err != nil || c.At() != 0 {
		t.Errorf("P2.2: Raw(0) = %x, %v", b, err)
	}
	if b, err := c.Raw(1); string(b) != "a" || err != nil || c.At() != 1 {
		t.Errorf("P2.2: Raw(1) = %x, %v", b, err)
	}
	for _, n := range []int{3, math.MaxInt} {
		b, err := c.Raw(n)
		wantAt(t, "P2.2: Raw of too many", err, api.ErrShort, 1)
		if b != nil || c.At() != 1 {
			t.Errorf("P2.2: Raw(%d) = %x beside an error, At %d", n, b, c.At())
		}
	}
	if b, err := c.Raw(2); string(b) != "bc" || err != nil || c.End() != nil {
		t.Errorf("P2.2: Raw(2) = %x, %v", b, err)
	}
	if b, err := c.Raw(0); len(b) != 0 || err != nil {
		t.Errorf("P2.2: Raw(0) at the end = %x, %v", b, err)
	}
}

func TestCursorText(t *testing.T) {
	for _, c := range []struct {
		b     string
		most  int
		want  error
		place int
	}{
		{"", 9, api.ErrShort, 0}, {"\x00", 9, api.ErrShort, 0}, {"\x00", -1, api.ErrShort, 0},
		{"\x00\x03AB", 9, api.ErrShort, 2}, {"\x00\x03AB", 3, api.ErrShort, 2}, {"\x00\x03AB", 2, api.ErrLength, 0},
		{"\x00\x00", -1, api.ErrLength, 0}, {"\x00\x01A", math.MinInt, api.ErrLength, 0}, {"\xff\xff", math.MaxInt, api.ErrShort, 2},
	} {
		in := wire.Open([]byte(c.b))
		s, err := in.Text(c.most)
		wantAt(t, "P2.2: Text", err, c.want, c.place)
		if s != "" {
			t.Errorf("P2.2: Text = %q beside an error", s)
		}
		wantPlace(t, "P2.2: behind a refused Text", in, 0, len(c.b))
	}
	long := strings.Repeat("y", 65535)
	c := wire.Open([]byte("\x00\x02\xff\x00\x00\x00\xff\xff" + long))
	for _, step := range []struct {
		most int
		want string
		at   int
	}{{2, "\xff\x00", 4}, {0, "", 6}, {65535, long, 65543}} {
		if s, err := c.Text(step.most); s != step.want || err != nil || c.At() != step.at {
			t.Errorf("P2.2: Text(%d) = %.20q, %v, At %d", step.most, s, err, c.At())
		}
	}
}

func TestCursorRecords(t *testing.T) {
	c := wire.Open([]byte("\x05\x00\x02AB\x06\x00\x00"))
	for _, tag := range []int{6, 0, 256, 261, -1, math.MaxInt} {
		in, err := c.Record(tag)
		wantAt(t, "P2.2: Record of another tag", err, api.ErrTag, 0)
		if in != nil {
			t.Errorf("P2.2: Record(%d): a cursor beside an error", tag)
		}
	}
	wantPlace(t, "P2.2: behind refused Records", c, 0, 8)
	in, err := c.Record(5)
	if err != nil {
		t.Fatalf("P2.2: Record: %v", err)
	}
	wantPlace(t, "P2.2: a body", in, 3, 2)
	wantPlace(t, "P2.2: behind the record", c, 5, 3)
	tag, last, err := c.Next()
	if tag != 6 || err != nil {
		t.Fatalf("P2.2: Next = %d, %v", tag, err)
	}
	wantPlace(t, "P2.2: an empty body", last, 8, 0)
	if last.End() != nil || c.End() != nil {
		t.Errorf("P2.2: End: %v, %v", last.End(), c.End())
	}
	wantAt(t, "P2.2: End of a body that is left", in.End(), api.ErrRest, 3)
	if b, err := in.Raw(2); string(b) != "AB" || err != nil {
		t.Errorf("P2.2: the body: %q, %v", b, err)
	}
	_, err = in.U8()
	wantAt(t, "P2.2: a body is left by no call", err, api.ErrShort, 5)
	_, err = in.Raw(1)
	wantAt(t, "P2.2: a body is left by no call", err, api.ErrShort, 5)
}

func TestCursorRefusesRecords(t *testing.T) {
	for _, c := range []struct {
		b     string
		want  error
		place int
	}{
		{"", api.ErrShort, 0}, {"\x05", api.ErrShort, 0}, {"\x05\x00", api.ErrShort, 0}, {"\x00\x00", api.ErrShort, 0},
		{"\x00\x00\x00", api.ErrTag, 0}, {"\x00\xff\xff", api.ErrTag, 0},
		{"\x05\x00\x03AB", api.ErrLength, 1}, {"\x05\xff\xff", api.ErrLength, 1}, {"\x05\x00\x01", api.ErrLength, 1},
	} {
		in := wire.Open([]byte(c.b))
		tag, body, err := in.Next()
		wantAt(t, "P2.2: Next", err, c.want, c.place)
		if tag != 0 || body != nil {
			t.Errorf("P2.2: Next = %d, %v beside an error", tag, body)
		}
		body, err = in.Record(5)
		wantAt(t, "P2.2: Record", err, c.want, c.place)
		if body != nil {
			t.Error("P2.2: Record: a cursor beside an error")
		}
		wantPlace(t, "P2.2: behind refused calls", in, 0, len(c.b))
	}
	for _, b := range []string{"\x00\x00\x00", "\x07\xff\xff"} {
		_, err := wire.Open([]byte(b)).Record(0)
		wantAt(t, "P2.2: Record(0)", err, api.ErrTag, 0)
	}
	_, err := wire.Open([]byte("\x07\xff\xff")).Record(6)
	wantAt(t, "P2.2: the tag ahead of the length", err, api.ErrTag, 0)
}

func TestCursorInACursor(t *testing.T) {
	inner := "\x02\x00\x03\x00\x01Z"
	c := wire.Open([]byte("\x01\x00\x08" + inner + "\x07\x07" + "\x07\x07\x07\x07"))
	_, outer, err := c.Next()
	if err != nil {
		t.Fatal(err)
	}
	body, err := outer.Record(2)
	if err != nil {
		t.Fatal(err)
	}
	wantPlace(t, "P2.2: a body in a body", body, 6, 3)
	wantPlace(t, "P2.2: the outer body", outer, 9, 2)
	_, _, err = outer.Next()
	wantAt(t, "P2.2: a record doesn't leave its body", err, api.ErrShort, 9)
	_, err = outer.U32()
	wantAt(t, "P2.2: a number doesn't leave its body", err, api.ErrShort, 9)
	if s, err := body.Text(1); s != "Z" || err != nil {
		t.Errorf("P2.2: Text in a body in a body = %q, %v", s, err)
	}
	c = wire.Open([]byte("\x01\x00\x03\x02\x00\x01\x07"))
	_, outer, _ = c.Next()
	_, _, err = outer.Next()
	wantAt(t, "P2.2: a length over the body's end", err, api.ErrLength, 4)
	c = wire.Open([]byte("\x01\x00\x03\x00\x02\x41\x42"))
	_, outer, _ = c.Next()
	_, err = outer.Text(9)
	wantAt(t, "P2.2: a text over the body's end", err, api.ErrShort, 5)
}

func TestCursorMemory(t *testing.T) {
	b := append(make([]byte, 0, 32), "\x01\x00\x02ABcd"...)
	whole := bytes.Clone(b[:32])
	c := wire.Open(b)
	_, body, err := c.Next()
	if err != nil {
		t.Fatal(err)
	}
	rest, _ := c.Raw(2)
	spoil(rest)
	if !bytes.Equal(b[:32], whole) {
		t.Error("R2: what was opened is changed")
	}
	spoil(b)
	for _, want := range []string{"A", "B"} {
		raw, err := body.Raw(1)
		if err != nil || string(raw) != want {
			t.Errorf("P2.2: writing into what was opened or answered changes a cursor: %q, %v", raw, err)
		}
		spoil(raw)
	}
}
