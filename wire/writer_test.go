package wire_test

import (
	"bytes"
	"errors"
	"math"
	"strings"
	"testing"

	"ferry/api"
	"ferry/wire"
)

// put is one put into a writer.
type put func(w *wire.Writer)

func u8(n int) put                    { return func(w *wire.Writer) { w.U8(n) } }
func u16(n int) put                   { return func(w *wire.Writer) { w.U16(n) } }
func u32(n int) put                   { return func(w *wire.Writer) { w.U32(n) } }
func flag(b bool) put                 { return func(w *wire.Writer) { w.Flag(b) } }
func raw(b string) put                { return func(w *wire.Writer) { w.Raw([]byte(b)) } }
func text(s string) put               { return func(w *wire.Writer) { w.Text(s) } }
func record(tag int, body string) put { return func(w *wire.Writer) { w.Record(tag, []byte(body)) } }

// allPuts: one good put of each kind.
func allPuts() []put {
	return []put{u8(8), u16(8), u32(8), flag(true), flag(false), raw("a"), text("a"), record(1, "a")}
}

func TestWriterPutsFields(t *testing.T) {
	long := strings.Repeat("x", 65535)
	for _, c := range []struct {
		put  put
		want string
	}{
		{u8(0), "\x00"}, {u8(7), "\x07"}, {u8(255), "\xff"},
		{u16(0), "\x00\x00"}, {u16(258), "\x01\x02"}, {u16(65535), "\xff\xff"},
		{u32(0), "\x00\x00\x00\x00"}, {u32(1), "\x00\x00\x00\x01"}, {u32(0x01020304), "\x01\x02\x03\x04"}, {u32(4294967295), "\xff\xff\xff\xff"},
		{flag(true), "\x01"}, {flag(false), "\x00"},
		{raw(""), ""}, {raw("\x00\xffz"), "\x00\xffz"}, {raw(long + long), long + long},
		{text(""), "\x00\x00"}, {text("AB"), "\x00\x02AB"}, {text("\xff\x00"), "\x00\x02\xff\x00"}, {text(long), "\xff\xff" + long},
		{record(5, "AB"), "\x05\x00\x02AB"}, {record(1, ""), "\x01\x00\x00"}, {record(255, long), "\xff\xff\xff" + long},
	} {
		w := wire.NewWriter()
		c.put(w)
		got, err := w.Done()
		if err != nil || string(got) != c.want || w.Size() != len(c.want) {
			t.Errorf("P2.1: %.40x, %v, Size %d, want %.40x", got, err, w.Size(), c.want)
		}
	}
	w := wire.NewWriter()
	w.Raw(nil)
	w.Record(9, nil)
	if got, err := w.Done(); err != nil || string(got) != "\x09\x00\x00" {
		t.Errorf("R4: nil lists put %x, %v", got, err)
	}
}

func TestWriterKeepsTheOrder(t *testing.T) {
	w := wire.NewWriter()
	if got, err := w.Done(); err != nil || len(got) != 0 || w.Size() != 0 {
		t.Errorf("P2.1: a new writer: %x, %v, Size %d", got, err, w.Size())
	}
	for _, p := range []put{u8(7), u16(258), u32(1), flag(true), text("AB")} {
		p(w)
	}
	want := "\x07\x01\x02\x00\x00\x00\x01\x01\x00\x02AB"
	first, err := w.Done()
	if err != nil || string(first) != want || w.Size() != 12 {
		t.Errorf("P2.1: Done = %x, %v, Size %d", first, err, w.Size())
	}
	w.U8(9)
	second, err := w.Done()
	if err != nil || string(second) != want+"\x09" || w.Size() != 13 {
		t.Errorf("P2.1: Done behind a further put = %x, %v", second, err)
	}
	if string(first) != want {
		t.Errorf("P2.1: a further put changed what Done answered: %x", first)
	}
}

func TestWriterIsSpoilt(t *testing.T) {
	long := strings.Repeat("x", 65536)
	for _, c := range []struct {
		put  put
		want error
	}{
		{u8(256), api.ErrRange}, {u8(-1), api.ErrRange}, {u8(math.MaxInt), api.ErrRange}, {u8(math.MinInt), api.ErrRange},
		{u16(65536), api.ErrRange}, {u16(-1), api.ErrRange}, {u16(math.MinInt), api.ErrRange},
		{u32(4294967296), api.ErrRange}, {u32(-1), api.ErrRange}, {u32(math.MaxInt), api.ErrRange}, {u32(math.MinInt), api.ErrRange},
		{text(long), api.ErrLength},
		{record(0, ""), api.ErrTag}, {record(256, ""), api.ErrTag}, {record(-1, ""), api.ErrTag}, {record(257, "a"), api.ErrTag},
		{record(0, long), api.ErrTag}, {record(256, long), api.ErrTag}, {record(1, long), api.ErrLength},
	} {
		for _, ahead := range []string{"", "ab"} {
			w := wire.NewWriter()
			w.Raw([]byte(ahead))
			c.put(w)
			for _, p := range append(allPuts(), u8(999), text(long), record(0, ""), record(1, long)) {
				p(w)
			}
			for range 2 {
				got, err := w.Done()
				wantAt(t, "P2.1: a spoilt writer", err, c.want, len(ahead))
				if got != nil || w.Size() != len(ahead) {
					t.Errorf("P2.1: a spoilt writer: %x, Size %d", got, w.Size())
				}
			}
		}
	}
}

func TestWriterErrorIsNotShared(t *testing.T) {
	w := wire.NewWriter()
	w.Record(0, nil)
	_, err := w.Done()
	var at *api.At
	if !errors.As(err, &at) {
		t.Fatal("P2.1: no place")
	}
	at.Place, at.Err = 77, api.ErrSum
	_, err = w.Done()
	wantAt(t, "R2: the error of a second Done", err, api.ErrTag, 0)
}

func TestWriterMemory(t *testing.T) {
	b := append(make([]byte, 0, 32), "abc"...)
	body := append(make([]byte, 0, 32), "de"...)
	whole, wholeBody := string(b[:32]), string(body[:32])
	w := wire.NewWriter()
	w.Raw(b)
	w.Record(1, body)
	first, _ := w.Done()
	spoil(first)
	if string(b[:32]) != whole || string(body[:32]) != wholeBody {
		t.Error("R2: what was handed in is changed")
	}
	spoil(b)
	spoil(body)
	w.U8(9)
	if got, err := w.Done(); err != nil || !bytes.Equal(got, []byte("abc\x01\x00\x02de\x09")) {
		t.Errorf("P2.1: the writer keeps what it was handed or answered: %x, %v", got, err)
	}
}
