package wire

import "ferry/api"

// Cursor goes through bytes, within a bound.
type Cursor struct {
	opened []byte // never written into, so that cursors over records may share it
	place  int
	bound  int
}

// Open: a cursor at the beginning of b, bounded by its end.
func Open(b []byte) *Cursor { return &Cursor{opened: fresh(b), bound: len(b)} }

// At: its place in the bytes that were opened.
func (c *Cursor) At() int { return c.place }

// Left: how many bytes are left within its bound.
func (c *Cursor) Left() int { return c.bound - c.place }

// U8: the next byte's number.
func (c *Cursor) U8() (int, error) { return c.number(1) }

// U16: the number of the next two bytes.
func (c *Cursor) U16() (int, error) { return c.number(2) }

// U32: the number of the next four bytes.
func (c *Cursor) U32() (int, error) { return c.number(4) }

// Flag: the next byte, which is 0 or 1.
func (c *Cursor) Flag() (bool, error) {
	n, err := c.Ranged(1, 0, 1)
	return n == 1, err
}

// Ranged: the number of the next width bytes, which is lo to hi.
func (c *Cursor) Ranged(width, lo, hi int) (int, error) {
	if width != 1 && width != 2 && width != 4 {
		return 0, api.ErrArg
	}
	if c.Left() < width {
		return 0, placed(api.ErrShort, c.place)
	}
	n := c.peek(c.place, width)
	if n < lo || n > hi {
		return 0, placed(api.ErrRange, c.place)
	}
	c.place += width
	return n, nil
}

// Raw: the next n bytes.
func (c *Cursor) Raw(n int) ([]byte, error) {
	if n < 0 {
		return nil, api.ErrArg
	}
	if c.Left() < n {
		return nil, placed(api.ErrShort, c.place)
	}
	b := fresh(c.opened[c.place : c.place+n])
	c.place += n
	return b, nil
}

// Text: the next text, of at most so many bytes.
func (c *Cursor) Text(most int) (string, error) {
	if c.Left() < sizeWidth {
		return "", placed(api.ErrShort, c.place)
	}
	size := c.peek(c.place, sizeWidth)
	if size > most {
		return "", placed(api.ErrLength, c.place)
	}
	begin := c.place + sizeWidth
	if c.bound-begin < size {
		return "", placed(api.ErrShort, begin)
	}
	c.place = begin + size
	return string(c.opened[begin:c.place]), nil
}

// Next: the next record's tag, and a cursor over its body.
func (c *Cursor) Next() (int, *Cursor, error) {
	tag, err := c.tag()
	if err != nil {
		return 0, nil, err
	}
	body, err := c.body()
	if err != nil {
		return 0, nil, err
	}
	return tag, body, nil
}

// Record: a cursor over the body of the next record, which has that tag.
func (c *Cursor) Record(tag int) (*Cursor, error) {
	found, err := c.tag()
	if err != nil {
		return nil, err
	}
	if found != tag {
		return nil, placed(api.ErrTag, c.place)
	}
	return c.body()
}

// End: is nothing left within the bound?
func (c *Cursor) End() error {
	if c.Left() > 0 {
		return placed(api.ErrRest, c.place)
	}
	return nil
}

// tag looks at the next record's tag, and leaves the place where it is: the length may still be wrong.
func (c *Cursor) tag() (int, error) {
	if c.Left() < headSize {
		return 0, placed(api.ErrShort, c.place)
	}
	tag := c.peek(c.place, 1)
	if tag == 0 {
		return 0, placed(api.ErrTag, c.place)
	}
	return tag, nil
}

// body goes behind the next record, whose head is all there, and answers a cursor over its body.
func (c *Cursor) body() (*Cursor, error) {
	begin := c.place + headSize
	size := c.peek(c.place+1, sizeWidth)
	if c.bound-begin < size {
		return nil, placed(api.ErrLength, c.place+1)
	}
	c.place = begin + size
	return &Cursor{opened: c.opened, place: begin, bound: c.place}, nil
}

// rest tells all bytes up to the bound.
func (c *Cursor) rest() []byte { return fresh(c.opened[c.place:c.bound]) }

// number reads a number of that width.
func (c *Cursor) number(width int) (int, error) {
	return c.Ranged(width, 0, 1<<(8*width)-1)
}

// peek reads a number of bytes that are there, and moves nothing.
func (c *Cursor) peek(at, width int) int {
	n := 0
	for _, b := range c.opened[at : at+width] {
		n = n<<8 | int(b)
	}
	return n
}
