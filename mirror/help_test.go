package mirror_test

import (
	"errors"
	"fmt"
	"math/rand"
	"reflect"
	"runtime/debug"
	"slices"
	"testing"

	"ferry/api"
)

// TestMain: the plays make much that lives for a moment only; sweeping after each bit of it would take longer than they do.
func TestMain(m *testing.M) {
	debug.SetGCPercent(200)
	m.Run()
}

// want looks for the error at that place, or without one where the place is -1.
func want(t *testing.T, what string, err, wanted error, place int) {
	t.Helper()
	var at *api.At
	if api.Code(err) != api.Code(wanted) || api.Place(err) != place || errors.As(err, &at) != (place >= 0) {
		t.Errorf("%s: error %v at %d, want %v at %d", what, err, api.Place(err), wanted, place)
	}
}

// wantBare looks whether err is just that error (or none), without a place.
func wantBare(t *testing.T, what string, err, wanted error) {
	t.Helper()
	want(t, what, err, wanted, -1)
}

// same: field by field, list by list; nil and empty lists are one.
func same(a, b any) bool { return sameValue(reflect.ValueOf(a), reflect.ValueOf(b)) }

func sameValue(a, b reflect.Value) bool {
	switch a.Kind() {
	case reflect.Struct:
		for i := range a.NumField() {
			if !sameValue(a.Field(i), b.Field(i)) {
				return false
			}
		}
		return true
	case reflect.Slice:
		if a.Len() != b.Len() {
			return false
		}
		for i := range a.Len() {
			if !sameValue(a.Index(i), b.Index(i)) {
				return false
			}
		}
		return true
	}
	return a.Equal(b)
}

func wantSame(t *testing.T, what string, got, want any) {
	t.Helper()
	if !same(got, want) {
		t.Errorf("%s: %.900s\nwant %.900s", what, fmt.Sprintf("%+v", got), fmt.Sprintf("%+v", want))
	}
}

// edited: the value with a change.
func edited[T any](v T, edit func(v *T)) T {
	edit(&v)
	return v
}

func one[T any](r *rand.Rand, of ...T) T { return of[r.Intn(len(of))] }

// seldom: once in so many times.
func seldom(r *rand.Rand, in int) bool { return r.Intn(in) == 0 }

func coin(r *rand.Rand) bool { return r.Intn(2) == 0 }

func someBytes(r *rand.Rand, n int) []byte {
	b := make([]byte, n)
	r.Read(b)
	return b
}

// wantEnough looks whether each of these was seen so often.
func wantEnough(t *testing.T, seen map[string]int, times int, of ...string) {
	t.Helper()
	for _, what := range of {
		if seen[what] < times {
			t.Errorf("the plays came to %q only %d times", what, seen[what])
		}
	}
}

// roomy: the value, as new memory, all of whose lists have spare room.
func roomy[T any](v T) T { return copied(reflect.ValueOf(v), 3).Interface().(T) }

// copied: the value as new memory, with so many spare elements behind each list, which are like its first one.
func copied(v reflect.Value, spare int) reflect.Value {
	fresh := reflect.New(v.Type()).Elem()
	switch v.Kind() {
	case reflect.Struct:
		for i := range v.NumField() {
			fresh.Field(i).Set(copied(v.Field(i), spare))
		}
	case reflect.Slice:
		list := reflect.MakeSlice(v.Type(), v.Len()+spare, v.Len()+spare)
		for i := range list.Len() {
			if v.Len() > 0 {
				list.Index(i).Set(copied(v.Index(i%v.Len()), spare))
			}
		}
		fresh.Set(list.Slice(0, v.Len()))
	default:
		fresh.Set(v)
	}
	return fresh
}

// entire: the value with the spare room of its lists, as new memory.
func entire(v reflect.Value) reflect.Value {
	fresh := reflect.New(v.Type()).Elem()
	switch v.Kind() {
	case reflect.Struct:
		for i := range v.NumField() {
			fresh.Field(i).Set(entire(v.Field(i)))
		}
	case reflect.Slice:
		all := v.Slice(0, v.Cap())
		fresh.Set(reflect.MakeSlice(v.Type(), v.Cap(), v.Cap()))
		for i := range v.Cap() {
			fresh.Index(i).Set(entire(all.Index(i)))
		}
	default:
		fresh.Set(v)
	}
	return fresh
}

// kept gives a look whether the values, spare room included, are what they were.
func kept(t *testing.T, values ...any) func(what string) {
	var was []any
	for _, v := range values {
		was = append(was, entire(reflect.ValueOf(v)).Interface())
	}
	return func(what string) {
		t.Helper()
		for i, v := range values {
			if !reflect.DeepEqual(entire(reflect.ValueOf(v)).Interface(), was[i]) {
				t.Errorf("R2: %s: what was handed in has changed", what)
			}
		}
	}
}

// spoil writes into every list of the value, its spare room too.
func spoil(v reflect.Value) {
	switch v.Kind() {
	case reflect.Struct:
		for i := range v.NumField() {
			spoil(v.Field(i))
		}
	case reflect.Slice:
		all := v.Slice(0, v.Cap())
		for i := range all.Len() {
			spoil(all.Index(i))
			all.Index(i).SetZero()
		}
	}
}

// room is the memory of a list, spare room included.
type room struct{ from, to uintptr }

// rooms: of all lists of a value, and of those in them.
func rooms(v reflect.Value) []room {
	var all []room
	switch v.Kind() {
	case reflect.Struct:
		for i := range v.NumField() {
			all = append(all, rooms(v.Field(i))...)
		}
	case reflect.Slice:
		if v.Cap() > 0 {
			all = append(all, room{v.Pointer(), v.Pointer() + uintptr(v.Cap())*v.Type().Elem().Size()})
		}
		if k := v.Type().Elem().Kind(); k == reflect.Struct || k == reflect.Slice {
			for i := range v.Len() {
				all = append(all, rooms(v.Index(i))...)
			}
		}
	}
	return all
}

// wantApart looks whether no two lists of all these values share memory.
func wantApart(t *testing.T, what string, values ...any) {
	t.Helper()
	var all []room
	for _, v := range values {
		all = append(all, rooms(reflect.ValueOf(v))...)
	}
	slices.SortFunc(all, func(a, b room) int {
		if a.from < b.from {
			return -1
		}
		return 1
	})
	for i := 1; i < len(all); i++ {
		if all[i].from < all[i-1].to {
			t.Fatalf("R2: %s: two lists share memory", what)
		}
	}
}
