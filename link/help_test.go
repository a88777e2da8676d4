package link_test

import (
	"errors"
	"math/rand"
	"slices"
	"testing"

	"ferry/api"
	"ferry/link"
)

// wantBare looks whether err is just that error (or none), without a place.
func wantBare(t *testing.T, what string, err, want error) {
	t.Helper()
	var at *api.At
	if api.Code(err) != api.Code(want) || errors.As(err, &at) {
		t.Errorf("%s: error %v at %d, want %v without a place", what, err, api.Place(err), want)
	}
}

func there(bytes string) api.Letter { return api.Letter{From: 0, To: 1, Bytes: bytes} }

func back(bytes string) api.Letter { return api.Letter{From: 1, To: 0, Bytes: bytes} }

// wantSent looks whether the letter goes on its way, with that number.
func wantSent(t *testing.T, l *link.Link, a api.Letter, number int) {
	t.Helper()
	n, err := l.Send(a)
	if wantBare(t, "P21.1: Send", err, nil); n != number || l.Made() != number {
		t.Errorf("P21.1: Send = %d and Made = %d, want %d", n, l.Made(), number)
	}
}

// wantNotSent looks whether the letter is refused, and gets no number.
func wantNotSent(t *testing.T, l *link.Link, a api.Letter, want error) {
	t.Helper()
	made := l.Made()
	n, err := l.Send(a)
	if wantBare(t, "P21.1: Send", err, want); n != 0 || l.Made() != made {
		t.Errorf("P21.1: Send of %d to %d = %d beside an error, Made = %d, want %d", a.From, a.To, n, l.Made(), made)
	}
}

func wantCopied(t *testing.T, l *link.Link, n, number int) {
	t.Helper()
	got, err := l.Copy(n)
	if wantBare(t, "P21.1: Copy", err, nil); got != number || l.Made() != number {
		t.Errorf("P21.1: Copy(%d) = %d and Made = %d, want %d", n, got, l.Made(), number)
	}
}

func wantLook(t *testing.T, l *link.Link, n int, want api.Letter, spoilt bool) {
	t.Helper()
	a, is, err := l.Look(n)
	if wantBare(t, "P21.1: Look", err, nil); a != want || is != spoilt {
		t.Errorf("P21.1: Look(%d) = %#v, %v, want %#v, %v", n, a, is, want, spoilt)
	}
}

func wantTaken(t *testing.T, l *link.Link, n int, want api.Letter) {
	t.Helper()
	a, err := l.Take(n)
	if wantBare(t, "P21.1: Take", err, nil); a != want {
		t.Errorf("P21.1: Take(%d) = %#v, want %#v", n, a, want)
	}
	wantNoLetter(t, l, n)
}

// wantNoLetter looks whether no call finds a letter of that number, whatever else it is told, and none changes anything.
func wantNoLetter(t *testing.T, l *link.Link, n int) {
	t.Helper()
	made, to0, to1 := l.Made(), l.Waiting(0), l.Waiting(1)
	a, is, err := l.Look(n)
	wantBare(t, "P21.3: Look", err, api.ErrNone)
	b, err := l.Take(n)
	wantBare(t, "P21.3: Take", err, api.ErrNone)
	number, err := l.Copy(n)
	wantBare(t, "P21.3: Copy", err, api.ErrNone)
	if a != (api.Letter{}) || b != (api.Letter{}) || is || number != 0 {
		t.Errorf("P21.3: of letter %d: %#v, %v, %#v, %d beside an error", n, a, is, b, number)
	}
	wantBare(t, "P21.3: Drop", l.Drop(n), api.ErrNone)
	for _, v := range []int{-1, 0, 1} {
		wantBare(t, "P21.3: Trim", l.Trim(n, v), api.ErrNone)
		wantBare(t, "P21.3: Flip", l.Flip(n, v, 1), api.ErrNone)
		wantBare(t, "P21.3: Flip by nothing", l.Flip(n, v, 0), api.ErrNone)
	}
	if l.Made() != made || !slices.Equal(l.Waiting(0), to0) || !slices.Equal(l.Waiting(1), to1) {
		t.Errorf("P21.1: refused calls change something: Made = %d, Waiting = %v, %v", l.Made(), l.Waiting(0), l.Waiting(1))
	}
}

func wantWaiting(t *testing.T, l *link.Link, to int, want ...int) {
	t.Helper()
	if got := l.Waiting(to); !slices.Equal(got, want) {
		t.Errorf("P21.3: Waiting(%d) = %v, want %v", to, got, want)
	}
}

func wantFlushed(t *testing.T, l *link.Link, to, want int) {
	t.Helper()
	if n := l.Flush(to); n != want {
		t.Errorf("P21.3: Flush(%d) = %d, want %d", to, n, want)
	}
}

func one[T any](r *rand.Rand, of ...T) T { return of[r.Intn(len(of))] }

func someBytes(r *rand.Rand, n int) string {
	b := make([]byte, n)
	r.Read(b)
	return string(b)
}
