package wire_test

import (
	"errors"
	"math/rand"
	"testing"

	"ferry/api"
)

// wantAt looks whether err is that error with that place, and nothing else.
func wantAt(t *testing.T, what string, err, want error, place int) {
	t.Helper()
	var at *api.At
	if !errors.Is(err, want) || api.Code(err) != api.Code(want) || !errors.As(err, &at) || at.Place != place {
		t.Errorf("%s: error %v at %d, want %v at %d", what, err, api.Place(err), want, place)
	}
}

// wantBare looks whether err is that error without a place.
func wantBare(t *testing.T, what string, err, want error) {
	t.Helper()
	var at *api.At
	if !errors.Is(err, want) || api.Code(err) != api.Code(want) || errors.As(err, &at) {
		t.Errorf("%s: error %v at %d, want %v without a place", what, err, api.Place(err), want)
	}
}

// randomBytes makes n bytes with spare room behind them.
func randomBytes(r *rand.Rand, n int) []byte {
	b := make([]byte, n, n+16)
	r.Read(b[:cap(b)])
	return b
}

// spoil turns every bit of the list, its spare room too.
func spoil(b []byte) {
	b = b[:cap(b)]
	for i := range b {
		b[i] = ^b[i]
	}
}
