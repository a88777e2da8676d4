package pair_test

import (
	"errors"
	"fmt"
	"math/rand"
	"reflect"
	"runtime/debug"
	"slices"
	"strings"
	"testing"

	"ferry/api"
	"ferry/pair"
	"ferry/text"
)

// TestMain: the plays make much that lives for a moment only; sweeping after each bit of it would take longer than they do.
func TestMain(m *testing.M) {
	debug.SetGCPercent(800)
	m.Run()
}

// want looks for the error at that place, or without one where the place is -1.
func want(t *testing.T, what string, err, wanted error, place int) {
	t.Helper()
	var at *api.At
	if api.Code(err) != api.Code(wanted) || api.Place(err) != place || errors.As(err, &at) != (place >= 0) {
		t.Errorf("%s: error %v at %d, want %v at %d", what, err, api.Place(err), wanted, place)
	}
}

// wantBare looks whether err is just that error (or none), without a place.
func wantBare(t *testing.T, what string, err, wanted error) {
	t.Helper()
	want(t, what, err, wanted, -1)
}

// same: field by field, list by list; nil and empty lists are one.
func same(a, b any) bool { return sameValue(reflect.ValueOf(a), reflect.ValueOf(b)) }

func sameValue(a, b reflect.Value) bool {
	switch a.Kind() {
	case reflect.Struct:
		for i := range a.NumField() {
			if !sameValue(a.Field(i), b.Field(i)) {
				return false
			}
		}
		return true
	case reflect.Slice:
		if a.Len() != b.Len() {
			return false
		}
		for i := range a.Len() {
			if !sameValue(a.Index(i), b.Index(i)) {
				return false
			}
		}
		return true
	}
	return a.Equal(b)
}

func wantSame(t *testing.T, what string, got, want any) {
	t.Helper()
	if !same(got, want) {
		t.Errorf("%s: %.900s\nwant %.900s", what, fmt.Sprintf("%+v", got), fmt.Sprintf("%+v", want))
	}
}

// exampleConfig: C of the chapter's examples.
func exampleConfig() api.Config {
	loop := []api.PagePlan{{Rights: 7, Init: "\x30\x00\xff\xff"}}
	procs := []api.ProcPlan{{Auto: true}}
	return api.Config{
		Ticks: 100, Tries: 3, Homes: []int{0, 1},
		Parts:   []api.Plan{{Id: 0, Mobile: true, Pages: loop, Procs: procs}, {Id: 1, Pages: loop, Procs: procs}},
		Windows: []api.Window{{Part: 0, Start: 0, Len: 40}, {Part: 1, Start: 40, Len: 40}, {Part: api.Snap, Start: 80, Len: 20}},
	}
}

func newPair(t *testing.T, c api.Config, inputs ...api.Input) *pair.Pair {
	t.Helper()
	p, err := pair.New(c, inputs)
	if err != nil || p == nil {
		t.Fatalf("P24.1: New: %v", err)
	}
	return p
}

// op: the step of a line of the language.
func op(t *testing.T, line string) api.Op {
	t.Helper()
	o, err := text.ParseOp(line)
	if err != nil {
		t.Fatalf("%q is no step", line)
	}
	return o
}

// play: these steps, each of which must answer without an error.
func play(t *testing.T, p *pair.Pair, lines ...string) {
	t.Helper()
	for _, line := range lines {
		if a := p.Step(op(t, line)); a.Code != 0 {
			t.Fatalf("P24.1: %s: code %d", line, a.Code)
		}
	}
}

// wantStep: the step's code, its last letter, and what befell.
func wantStep(t *testing.T, p *pair.Pair, line string, err error, msg int, events ...api.Event) api.Answer {
	t.Helper()
	a := p.Step(op(t, line))
	if a.Code != api.Code(err) || a.Msg != msg || !slices.Equal(a.Events, events) {
		t.Fatalf("P24.1: %s: code %d, letter %d, events %v, want %d, %d, %v", line, a.Code, a.Msg, a.Events, api.Code(err), msg, events)
	}
	if err != nil && !same(a, api.Answer{Code: a.Code}) {
		t.Fatalf("P24.1: %s: beside an error %+v", line, a)
	}
	return a
}

// wantTold: whose frames an answer tells: module, partition, frame each.
func wantTold(t *testing.T, a api.Answer, told ...[3]int) {
	t.Helper()
	var got [][3]int
	for _, x := range a.Outs {
		got = append(got, [3]int{x.Module, x.Part, x.Frame})
	}
	if !slices.Equal(got, told) {
		t.Fatalf("P24.1: told (module, partition, frame) %v, want %v", got, told)
	}
}

func wantWhere(t *testing.T, p *pair.Pair, part, module int, wanted error) {
	t.Helper()
	m, err := p.Where(part)
	wantBare(t, fmt.Sprintf("P24.1: Where(%d)", part), err, wanted)
	if m != module {
		t.Errorf("P24.1: Where(%d) = %d, want %d", part, m, module)
	}
}

func wantMoving(t *testing.T, p *pair.Pair, part, module, phase int) {
	t.Helper()
	a, b, c, err := p.Moving()
	if err != nil || a != part || b != module || c != phase {
		t.Errorf("P24.1: Moving = %d, %d, %d, %v, want %d, %d, %d", a, b, c, err, part, module, phase)
	}
}

func wantStill(t *testing.T, p *pair.Pair) {
	t.Helper()
	a, b, c, err := p.Moving()
	wantBare(t, "P24.1: Moving", err, api.ErrNone)
	if a != 0 || b != 0 || c != 0 {
		t.Errorf("P24.1: Moving: %d, %d, %d beside an error", a, b, c)
	}
}

// wantState: the frame of the partition's state, or the error.
func wantState(t *testing.T, p *pair.Pair, part, frame int, wanted error) {
	t.Helper()
	s, err := p.State(part)
	wantBare(t, fmt.Sprintf("P24.1: State(%d)", part), err, wanted)
	if s.Frame != frame || err != nil && !same(s, api.State{}) {
		t.Errorf("P24.1: State(%d): frame %d, want %d", part, s.Frame, frame)
	}
}

func wantBoot(t *testing.T, p *pair.Pair, module, boot int) {
	t.Helper()
	if n, err := p.Boot(module); err != nil || n != boot {
		t.Errorf("P24.1: Boot(%d) = %d, %v, want %d", module, n, err, boot)
	}
}

// tell: an answer in the lines of DOC.md's examples.
func tell(n int, a api.Answer) string {
	var b strings.Builder
	words := map[int]string{0: "ok", 7: "kind", 12: "argument", 14: "busy", 15: "down", 16: "lost", 17: "none"}
	events := []string{"", "begun", "frozen", "released", "started", "over", "aborted", "back", "taken", "lost"}
	fmt.Fprintf(&b, "%d %s", n, words[a.Code])
	if a.Msg != 0 {
		fmt.Fprintf(&b, " letter %d", a.Msg)
	}
	b.WriteByte('\n')
	for _, o := range a.Outs {
		for _, m := range o.Out.Msgs {
			fmt.Fprintf(&b, "  m%d p%d f%d port %d %x\n", o.Module, o.Part, o.Frame, m.Port, m.Data)
		}
	}
	for _, e := range a.Events {
		fmt.Fprintf(&b, "  p%d %s m%d\n", e.Part, events[e.Kind], e.Module)
	}
	return b.String()
}

// edited: the value with a change.
func edited[T any](v T, edit func(v *T)) T {
	edit(&v)
	return v
}

func one[T any](r *rand.Rand, of ...T) T { return of[r.Intn(len(of))] }

// seldom: once in so many times.
func seldom(r *rand.Rand, in int) bool { return r.Intn(in) == 0 }

func coin(r *rand.Rand) bool { return r.Intn(2) == 0 }

func someBytes(r *rand.Rand, n int) []byte {
	b := make([]byte, n)
	r.Read(b)
	return b
}

// wantEnough looks whether each of these was seen so often.
func wantEnough(t *testing.T, seen map[string]int, times int, of ...string) {
	t.Helper()
	for _, what := range of {
		if seen[what] < times {
			t.Errorf("the plays came to %q only %d times", what, seen[what])
		}
	}
}

// roomy: the value, as new memory, all of whose lists have spare room.
func roomy[T any](v T) T { return copied(reflect.ValueOf(v), 3).Interface().(T) }

// copied: the value as new memory, with so many spare elements behind each list, which are like its first one.
func copied(v reflect.Value, spare int) reflect.Value {
	fresh := reflect.New(v.Type()).Elem()
	switch v.Kind() {
	case reflect.Struct:
		for i := range v.NumField() {
			fresh.Field(i).Set(copied(v.Field(i), spare))
		}
	case reflect.Slice:
		list := reflect.MakeSlice(v.Type(), v.Len()+spare, v.Len()+spare)
		for i := range list.Len() {
			if v.Len() > 0 {
				list.Index(i).Set(copied(v.Index(i%v.Len()), spare))
			}
		}
		fresh.Set(list.Slice(0, v.Len()))
	default:
		fresh.Set(v)
	}
	return fresh
}

// entire: the value with the spare room of its lists, as new memory.
func entire(v reflect.Value) reflect.Value {
	fresh := reflect.New(v.Type()).Elem()
	switch v.Kind() {
	case reflect.Struct:
		for i := range v.NumField() {
			fresh.Field(i).Set(entire(v.Field(i)))
		}
	case reflect.Slice:
		all := v.Slice(0, v.Cap())
		fresh.Set(reflect.MakeSlice(v.Type(), v.Cap(), v.Cap()))
		for i := range v.Cap() {
			fresh.Index(i).Set(entire(all.Index(i)))
		}
	default:
		fresh.Set(v)
	}
	return fresh
}

// kept gives a look whether the values, spare room included, are what they were.
func kept(t *testing.T, values ...any) func(what string) {
	var was []any
	for _, v := range values {
		was = append(was, entire(reflect.ValueOf(v)).Interface())
	}
	return func(what string) {
		t.Helper()
		for i, v := range values {
			if !reflect.DeepEqual(entire(reflect.ValueOf(v)).Interface(), was[i]) {
				t.Errorf("P24.7: %s: what was handed in has changed", what)
			}
		}
	}
}

// spoil writes into every list of the value, its spare room too.
func spoil(v reflect.Value) {
	switch v.Kind() {
	case reflect.Struct:
		for i := range v.NumField() {
			spoil(v.Field(i))
		}
	case reflect.Slice:
		all := v.Slice(0, v.Cap())
		for i := range all.Len() {
			spoil(all.Index(i))
			all.Index(i).SetZero()
		}
	}
}

// room is the memory of a list, spare room included.
type room struct{ from, to uintptr }

// rooms: of all lists of a value, and of those in them.
func rooms(v reflect.Value) []room {
	var all []room
	switch v.Kind() {
	case reflect.Struct:
		for i := range v.NumField() {
			all = append(all, rooms(v.Field(i))...)
		}
	case reflect.Slice:
		if v.Cap() > 0 {
			all = append(all, room{v.Pointer(), v.Pointer() + uintptr(v.Cap())*v.Type().Elem().Size()})
		}
		if k := v.Type().Elem().Kind(); k == reflect.Struct || k == reflect.Slice {
			for i := range v.Len() {
				all = append(all, rooms(v.Index(i))...)
			}
		}
	}
	return all
}

// wantApart looks whether no two lists of all these values share memory.
func wantApart(t *testing.T, what string, values ...any) {
	t.Helper()
	var all []room
	for _, v := range values {
		all = append(all, rooms(reflect.ValueOf(v))...)
	}
	slices.SortFunc(all, func(a, b room) int {
		if a.from < b.from {
			return -1
		}
		return 1
	})
	for i := 1; i < len(all); i++ {
		if all[i].from < all[i-1].to {
			t.Fatalf("P24.7: %s: two lists share memory", what)
		}
	}
}
