// Package wire is layer 2: fields, records, and a bounded cursor. See shared/doc/02-wire.md.
package wire

import "ferry/api"

const (
	// headSize is the number of bytes ahead of a record's body: its tag and its length.
	headSize = 3
	// sizeWidth is the width of a text's or a body's length.
	sizeWidth = 2
	// mostBody is the greatest length of a text or a body.
	mostBody = 65535
	// mostTag is the greatest tag.
	mostTag = 255
)

// Rec is one record: a tag and a body.
type Rec struct {
	Tag  int
	Body []byte
}

// Join: the records, one behind the other.
func Join(recs []Rec) ([]byte, error) {
	w := NewWriter()
	for _, r := range recs {
		w.Record(r.Tag, r.Body)
	}
	return w.Done()
}

// Split: the records of the bytes.
func Split(b []byte) ([]Rec, error) {
	var recs []Rec
	c := Open(b)
	for c.Left() > 0 {
		tag, body, err := c.Next()
		if err != nil {
			return nil, err
		}
		recs = append(recs, Rec{Tag: tag, Body: body.rest()})
	}
	return recs, nil
}

// Expect: the bodies of the records, which have just these tags, in this order.
func Expect(b []byte, tags ...int) ([][]byte, error) {
	var bodies [][]byte
	c := Open(b)
	for _, tag := range tags {
		body, err := c.Record(tag)
		if err != nil {
			return nil, err
		}
		bodies = append(bodies, body.rest())
	}
	if err := c.End(); err != nil {
		return nil, err
	}
	return bodies, nil
}

// fresh copies the bytes, so that nothing is shared with what was handed in or answered.
func fresh(b []byte) []byte {
	c := make([]byte, len(b))
	copy(c, b)
	return c
}

// placed tells an error with its place.
func placed(err error, place int) error { return &api.At{Place: place, Err: err} }
