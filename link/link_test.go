package link_test

import (
	"math"
	"math/bits"
	"slices"
	"strings"
	"testing"

	"ferry/api"
	"ferry/link"
)

// TestExamples: all of the chapter, one behind the other on one link.
func TestExamples(t *testing.T) {
	l := link.New()
	wantSent(t, l, there("abcd"), 1)
	wantSent(t, l, back("x"), 2)
	wantWaiting(t, l, 1, 1)
	wantWaiting(t, l, 0, 2)
	wantWaiting(t, l, 5)
	wantNotSent(t, l, api.Letter{From: 0, To: 0, Bytes: "x"}, api.ErrArg)
	wantNotSent(t, l, api.Letter{From: 0, To: 2, Bytes: "x"}, api.ErrArg)
	wantNotSent(t, l, there(""), api.ErrSize)

	wantCopied(t, l, 1, 3)
	wantBare(t, "P21.1: Trim", l.Trim(1, 2), nil)
	wantLook(t, l, 1, there("ab"), true)
	wantLook(t, l, 3, there("abcd"), false)
	wantBare(t, "P21.2: Trim of what is spoilt", l.Trim(1, 1), api.ErrArg)
	wantBare(t, "P21.2: Flip of what is spoilt", l.Flip(1, 0, 1), api.ErrArg)
	wantCopied(t, l, 1, 4)
	wantLook(t, l, 4, there("ab"), true)
	wantBare(t, "P21.2: Flip of a spoilt letter's copy", l.Flip(4, 0, 1), api.ErrArg)

	wantBare(t, "P21.1: Flip", l.Flip(3, 8, 1), nil)
	wantLook(t, l, 3, there("accd"), true)
	wantBare(t, "P21.1: Flip behind the end", l.Flip(2, 8, 1), api.ErrArg)
	wantBare(t, "P21.1: Flip by nothing", l.Flip(2, 0, 0), api.ErrArg)
	wantBare(t, "P21.1: Trim by nothing", l.Trim(2, 0), api.ErrArg)
	wantLook(t, l, 2, back("x"), false)
	wantBare(t, "P21.1: Trim", l.Trim(2, 9), nil)
	wantLook(t, l, 2, back(""), true)

	wantTaken(t, l, 1, there("ab"))
	wantBare(t, "P21.1: Drop", l.Drop(3), nil)
	wantNoLetter(t, l, 3)
	wantFlushed(t, l, 1, 1)
	wantFlushed(t, l, 1, 0)
	wantNoLetter(t, l, 4)
	wantWaiting(t, l, 1)
	wantWaiting(t, l, 0, 2)
	for _, n := range []int{0, -1, 99, 5, math.MaxInt, math.MinInt} {
		wantNoLetter(t, l, n)
	}
}

// TestNew: nothing is under way on a new link, and one has nothing to do with another.
func TestNew(t *testing.T) {
	l, m := link.New(), link.New()
	for _, n := range []int{-1, 0, 1, 2} {
		wantNoLetter(t, l, n)
		wantWaiting(t, l, n)
		wantFlushed(t, l, n, 0)
	}
	wantSent(t, l, there("l"), 1)
	wantSent(t, l, there("l"), 2)
	if m.Made() != 0 {
		t.Errorf("P21.1: Made = %d on another link", m.Made())
	}
	wantNoLetter(t, m, 1)
	wantSent(t, m, back("m"), 1)
	wantWaiting(t, l, 1, 1, 2)
	wantWaiting(t, m, 0, 1)
	wantTaken(t, m, 1, back("m"))
	wantLook(t, l, 1, there("l"), false)
	wantFlushed(t, l, 1, 2)
	wantSent(t, m, back("m"), 2)
}

// TestSend: who may send to whom, and of which length.
func TestSend(t *testing.T) {
	l := link.New()
	ends := []int{math.MinInt, -2, -1, 0, 1, 2, 3, 1 << 32, 1<<32 + 1, math.MaxInt}
	for _, from := range ends {
		for _, to := range ends {
			if from == 0 && to == 1 || from == 1 && to == 0 {
				continue
			}
			for _, size := range []int{0, 1, 4096, 4097} {
				wantNotSent(t, l, api.Letter{From: from, To: to, Bytes: strings.Repeat("x", size)}, api.ErrArg)
			}
		}
	}
	made := 0
	for _, a := range []api.Letter{there(""), back("")} {
		for _, size := range []int{0, 1, 2, 154, 155, 156, 4095, 4096, 4097, 1 << 20} {
			a.Bytes = strings.Repeat("s", size)
			if size == 0 || size > 4096 {
				wantNotSent(t, l, a, api.ErrSize)
				continue
			}
			made++
			wantSent(t, l, a, made)
			wantLook(t, l, made, a, false)
		}
	}
	wantWaiting(t, l, 1, 1, 2, 3, 4, 5, 6, 7)
	wantWaiting(t, l, 0, 8, 9, 10, 11, 12, 13, 14)
}

// TestTrim: letters of some lengths cut by each number of bytes.
func TestTrim(t *testing.T) {
	for _, size := range []int{1, 2, 5, 4096} {
		a := there(strings.Repeat("abcdefgh", 512)[:size])
		for _, cut := range []int{math.MinInt, -1, 0, 1, 2, 3, size - 1, size, size + 1, 4095, 4096, 4097, 1 << 40, math.MaxInt} {
			l := link.New()
			wantSent(t, l, a, 1)
			wantSent(t, l, a, 2)
			if cut < 1 {
				wantBare(t, "P21.1: Trim", l.Trim(1, cut), api.ErrArg)
				wantLook(t, l, 1, a, false)
				continue
			}
			wantBare(t, "P21.1: Trim", l.Trim(1, cut), nil)
			wantLook(t, l, 1, there(a.Bytes[:max(0, size-min(cut, 1<<20))]), true)
			wantLook(t, l, 2, a, false)
			wantSpoilt(t, l, 1)
		}
	}
}

// wantSpoilt looks whether the letter and its copies, and their copies, are neither cut nor turned again; these letters stay on their way.
func wantSpoilt(t *testing.T, l *link.Link, n int) {
	t.Helper()
	now, spoilt, err := l.Look(n)
	if wantBare(t, "P21.2: Look", err, nil); !spoilt {
		t.Errorf("P21.2: letter %d isn't spoilt", n)
	}
	for range 3 {
		for _, v := range []int{math.MinInt, -1, 0, 1, 8, math.MaxInt} {
			wantBare(t, "P21.2: Trim of what is spoilt", l.Trim(n, v), api.ErrArg)
			wantBare(t, "P21.2: Flip of what is spoilt", l.Flip(n, v, 1), api.ErrArg)
			wantBare(t, "P21.2: Flip of what is spoilt by nothing", l.Flip(n, v, 0), api.ErrArg)
		}
		wantLook(t, l, n, now, true)
		if n, err = l.Copy(n); err != nil {
			t.Fatalf("P21.1: Copy: %v", err)
		}
	}
	wantLook(t, l, n, now, true)
}

// turned: the bytes with bits turned one by one; not at all, if one of them isn't there.
func turned(s string, at int, mask uint32) (string, bool) {
	b := []byte(s)
	if mask == 0 || at < 0 || at > 8*len(b) {
		return "", false
	}
	for i := range 32 {
		if mask>>i&1 == 0 {
			continue
		}
		if at+i >= 8*len(b) {
			return "", false
		}
		b[(at+i)/8] ^= 1 << ((at + i) % 8)
	}
	return string(b), true
}

// TestFlip: bursts at each bit of letters of some lengths, those too that reach behind the end.
func TestFlip(t *testing.T) {
	for _, a := range []api.Letter{there("x"), back("abc"), there("\x00\xff\x00\xff\x80\x01"), back(strings.Repeat("z", 30))} {
		places := []int{math.MinInt, -33, -32, -1, 1 << 40, math.MaxInt - 31, math.MaxInt}
		for at := range 8*len(a.Bytes) + 33 {
			places = append(places, at)
		}
		for _, at := range places {
			for _, mask := range []uint32{0, 1, 2, 3, 5, 0x80, 0x100, 0x8000, 0x10001, 0x80000000, 0x80000001, 0xdeadbeef, 1<<32 - 1} {
				l := link.New()
				wantSent(t, l, a, 1)
				wantCopied(t, l, 1, 2)
				want, is := turned(a.Bytes, at, mask)
				if !is {
					wantBare(t, "P21.1: Flip", l.Flip(2, at, mask), api.ErrArg)
					wantLook(t, l, 2, a, false)
					continue
				}
				wantBare(t, "P21.1: Flip", l.Flip(2, at, mask), nil)
				wantLook(t, l, 2, api.Letter{From: a.From, To: a.To, Bytes: want}, true)
				wantLook(t, l, 1, a, false)
				if bits.OnesCount32(mask) == 1 {
					wantSpoilt(t, l, 2)
				}
			}
		}
	}
}

// TestRefusedStays: a call that was refused leaves the letter such that it can be spoilt, once.
func TestRefusedStays(t *testing.T) {
	l := link.New()
	wantSent(t, l, there("abc"), 1)
	wantBare(t, "P21.1: Trim", l.Trim(1, 0), api.ErrArg)
	wantBare(t, "P21.1: Flip", l.Flip(1, 24, 1), api.ErrArg)
	wantBare(t, "P21.1: Flip", l.Flip(1, 23, 1), nil)
	wantLook(t, l, 1, there("ab\xe3"), true)
	wantSpoilt(t, l, 1)
}

// TestCopy: a copy is as the letter is at the call; what befalls the one later doesn't befall the other.
func TestCopy(t *testing.T) {
	l := link.New()
	wantSent(t, l, back("abcd"), 1)
	wantCopied(t, l, 1, 2)
	wantCopied(t, l, 2, 3)
	wantBare(t, "P21.1: Trim", l.Trim(2, 1), nil)
	wantCopied(t, l, 2, 4)
	wantBare(t, "P21.1: Flip", l.Flip(3, 0, 1), nil)
	wantCopied(t, l, 3, 5)
	wantLook(t, l, 1, back("abcd"), false)
	wantLook(t, l, 4, back("abc"), true)
	wantLook(t, l, 5, back("`bcd"), true)
	wantWaiting(t, l, 0, 1, 2, 3, 4, 5)
	wantTaken(t, l, 2, back("abc"))
	wantBare(t, "P21.1: Drop", l.Drop(3), nil)
	wantWaiting(t, l, 0, 1, 4, 5)
	wantLook(t, l, 4, back("abc"), true)
	wantLook(t, l, 5, back("`bcd"), true)
	wantTaken(t, l, 5, back("`bcd"))
	// A letter of no byte can be copied too.
	wantBare(t, "P21.1: Trim", l.Trim(1, 4), nil)
	wantCopied(t, l, 1, 6)
	wantTaken(t, l, 6, back(""))
	wantWaiting(t, l, 0, 1, 4)
}

// TestFlush: only those to that module; a number isn't given again.
func TestFlush(t *testing.T) {
	l := link.New()
	for i := range 6 {
		wantSent(t, l, []api.Letter{there("t"), back("b")}[i%2], i+1)
	}
	for _, to := range []int{-1, 2, 5, math.MinInt, math.MaxInt} {
		wantFlushed(t, l, to, 0)
		wantWaiting(t, l, to)
	}
	wantBare(t, "P21.1: Drop", l.Drop(4), nil)
	wantFlushed(t, l, 0, 2)
	for _, n := range []int{2, 4, 6} {
		wantNoLetter(t, l, n)
	}
	wantWaiting(t, l, 0)
	wantWaiting(t, l, 1, 1, 3, 5)
	wantSent(t, l, back("again"), 7)
	wantFlushed(t, l, 1, 3)
	wantWaiting(t, l, 0, 7)
	wantCopied(t, l, 7, 8)
	wantFlushed(t, l, 0, 2)
	wantFlushed(t, l, 0, 0)
	wantSent(t, l, there("again"), 9)
}

// TestWaitingIsNew: R2: what Waiting answers is new memory; and it rises, however many there are.
func TestWaitingIsNew(t *testing.T) {
	l := link.New()
	for i := range 3000 {
		wantSent(t, l, there("w"), i+1)
	}
	first := l.Waiting(1)
	for i, n := range first {
		if n != i+1 {
			t.Fatalf("P21.3: Waiting's number %d is %d", i, n)
		}
	}
	clear(first[:cap(first)])
	if second := l.Waiting(1); len(second) != 3000 || second[0] != 1 || !slices.IsSorted(second) {
		t.Errorf("R2: Waiting shares memory with what it answered")
	}
	wantFlushed(t, l, 1, 3000)
	wantWaiting(t, l, 1)
}
