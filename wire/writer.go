package wire

import "ferry/api"

// Writer puts fields one behind the other.
type Writer struct {
	put   []byte
	spoil error // without its place: that is the size, which no longer grows
}

// NewWriter: a writer with nothing written.
func NewWriter() *Writer { return &Writer{} }

// U8: a number in one byte.
func (w *Writer) U8(n int) { w.number(n, 1) }

// U16: a number in two bytes.
func (w *Writer) U16(n int) { w.number(n, 2) }

// U32: a number in four bytes.
func (w *Writer) U32(n int) { w.number(n, 4) }

// Flag: one byte, 0 or 1.
func (w *Writer) Flag(b bool) {
	if b {
		w.U8(1)
	} else {
		w.U8(0)
	}
}

// Raw: the bytes as they are.
func (w *Writer) Raw(b []byte) {
	if w.spoil == nil {
		w.put = append(w.put, b...)
	}
}

// Text: the length in two bytes, and the bytes.
func (w *Writer) Text(s string) {
	if !w.fits(len(s)) {
		return
	}
	w.number(len(s), sizeWidth)
	w.put = append(w.put, s...)
}

// Record: a record.
func (w *Writer) Record(tag int, body []byte) {
	if w.spoil == nil && (tag < 1 || tag > mostTag) {
		w.spoil = api.ErrTag
	}
	if !w.fits(len(body)) {
		return
	}
	w.U8(tag)
	w.number(len(body), sizeWidth)
	w.Raw(body)
}

// Size: how many bytes have been put.
func (w *Writer) Size() int { return len(w.put) }

// Done: all that was put so far; else the first error.
func (w *Writer) Done() ([]byte, error) {
	if w.spoil != nil {
		return nil, placed(w.spoil, w.Size())
	}
	return fresh(w.put), nil
}

// number puts n in that width, the highest byte first.
func (w *Writer) number(n, width int) {
	if w.spoil != nil {
		return
	}
	if n < 0 || n>>(8*width) != 0 {
		w.spoil = api.ErrRange
		return
	}
	for i := width - 1; i >= 0; i-- {
		w.put = append(w.put, byte(n>>(8*i)))
	}
}

// fits tells whether something of that length may be put; one that is too long spoils the writer ahead of any byte of it.
func (w *Writer) fits(size int) bool {
	if w.spoil == nil && size > mostBody {
		w.spoil = api.ErrLength
	}
	return w.spoil == nil
}
