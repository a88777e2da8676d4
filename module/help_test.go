package module_test

import (
	"errors"
	"math/rand"
	"reflect"
	"slices"
	"strings"
	"testing"

	"ferry/api"
	"ferry/isa"
	"ferry/module"
	"ferry/plan"
	"ferry/valid"
)

// wantBare looks whether err is just that error (or none), without a place.
func wantBare(t *testing.T, what string, err, want error) {
	t.Helper()
	var at *api.At
	if api.Code(err) != api.Code(want) || errors.As(err, &at) {
		t.Errorf("%s: error %v at %d, want %v without a place", what, err, api.Place(err), want)
	}
}

// words: the bytes of the instructions, a semicolon between two.
func words(text string) string {
	list, err := isa.Assemble(strings.ReplaceAll(text, ";", "\n"))
	if err != nil {
		panic(err)
	}
	return string(isa.Bytes(list))
}

// talker: in each frame it adds 1 to a count, writes it, a byte, to its port 0, and sleeps till the next frame. (A window of 20 ticks in a frame of 100.)
const talker = "addi r4 r4 1; sb r4 r0 64; addi r1 r0 0; addi r2 r0 64; addi r3 r0 1; sys 13; addi r1 r0 50; sys 3; beq r0 r0 -9"

// listener: it stops at once; what comes to its ports stays there.
const listener = "sys 1"

// planOf: a partition of that code, with these ports.
func planOf(id int, code string, ports ...api.PortPlan) api.Plan {
	return api.Plan{
		Id:    id,
		Pages: []api.PagePlan{{Rights: 5, Init: words(code)}, {Rights: 3}},
		Procs: []api.ProcPlan{{Prio: 1, Auto: true}},
		Ports: ports,
	}
}

func queueOut() api.PortPlan { return api.PortPlan{Kind: api.QueueOut, Size: 4, Depth: 2} }

func queueIn() api.PortPlan { return api.PortPlan{Kind: api.QueueIn, Size: 4, Depth: 8} }

// config: of these partitions, whose Home is 0, each with a window of 20 ticks of 100.
func config(parts ...api.Plan) api.Config {
	c := api.Config{Ticks: 100, Tries: 1, Parts: parts}
	for i := range parts {
		c.Homes, c.Windows = append(c.Homes, 0), append(c.Windows, api.Window{Part: i, Start: 20 * i, Len: 20})
	}
	return c
}

// pairOf: a talker 0 and a listener 1, joined by a channel.
func pairOf() api.Config {
	c := config(planOf(0, talker, queueOut()), planOf(1, listener, queueIn()))
	c.Links = []api.Link{{From: 0, Out: 0, To: 1, In: 0}}
	return c
}

func newModule(t *testing.T, c api.Config, which int) *module.Module {
	t.Helper()
	m, err := module.New(c, which)
	wantBare(t, "P15.1: New", err, nil)
	if m == nil || m.Which() != which {
		t.Fatalf("P15.1: New answers %v", m)
	}
	return m
}

func frame(t *testing.T, m *module.Module, inputs ...api.Input) []api.PartOut {
	t.Helper()
	outs, err := m.Frame(inputs)
	wantBare(t, "P15.1: Frame", err, nil)
	return outs
}

func take(t *testing.T, m *module.Module, part int) api.State {
	t.Helper()
	s, err := m.Take(part)
	wantBare(t, "P15.1: Take", err, nil)
	return s
}

func put(t *testing.T, m *module.Module, part int, s api.State) {
	t.Helper()
	wantBare(t, "P15.1: Put", m.Put(part, s), nil)
}

func boot(t *testing.T, p api.Plan) api.State {
	t.Helper()
	s, err := plan.Boot(p)
	wantBare(t, "plan.Boot", err, nil)
	return s
}

func wantRunning(t *testing.T, what string, m *module.Module, want ...int) {
	t.Helper()
	if got := m.Running(); !slices.Equal(got, want) {
		t.Errorf("P15.1: %s: Running = %v, want %v", what, got, want)
	}
}

func wantState(t *testing.T, what string, m *module.Module, part int, want api.State) {
	t.Helper()
	got, err := m.State(part)
	wantBare(t, what+": State", err, nil)
	if !valid.Same(got, want) {
		t.Errorf("%s: State(%d) = %v, want %v", what, part, got, want)
	}
}

// wantHeld looks at what the partition's port holds.
func wantHeld(t *testing.T, what string, m *module.Module, part, port int, want ...string) {
	t.Helper()
	s, err := m.State(part)
	wantBare(t, what+": State", err, nil)
	if err == nil && !slices.Equal(s.Ports[port].Msgs, want) {
		t.Errorf("%s: port %d of %d holds %q, want %q", what, port, part, s.Ports[port].Msgs, want)
	}
}

func sameOut(a, b api.PartOut) bool {
	return a.Module == b.Module && a.Part == b.Part && a.Frame == b.Frame &&
		slices.Equal(a.Out.Msgs, b.Out.Msgs) && slices.Equal(a.Out.Reports, b.Out.Reports)
}

func wantOuts(t *testing.T, what string, got []api.PartOut, want ...api.PartOut) {
	t.Helper()
	if !slices.EqualFunc(got, want, sameOut) {
		t.Errorf("%s: %v, want %v", what, got, want)
	}
}

// roomy: the value, as new memory, all of whose lists have spare room.
func roomy[T any](v T) T { return copied(reflect.ValueOf(v), 3).Interface().(T) }

// copied: the value as new memory, with so many spare elements behind each list, which are like its first one.
func copied(v reflect.Value, spare int) reflect.Value {
	fresh := reflect.New(v.Type()).Elem()
	switch v.Kind() {
	case reflect.Struct:
		for i := range v.NumField() {
			fresh.Field(i).Set(copied(v.Field(i), spare))
		}
	case reflect.Slice:
		list := reflect.MakeSlice(v.Type(), v.Len()+spare, v.Len()+spare)
		for i := range list.Len() {
			if v.Len() > 0 {
				list.Index(i).Set(copied(v.Index(i%v.Len()), spare))
			}
		}
		fresh.Set(list.Slice(0, v.Len()))
	default:
		fresh.Set(v)
	}
	return fresh
}

// entire: the value with the spare room of its lists, as new memory.
func entire(v reflect.Value) reflect.Value {
	fresh := reflect.New(v.Type()).Elem()
	switch v.Kind() {
	case reflect.Struct:
		for i := range v.NumField() {
			fresh.Field(i).Set(entire(v.Field(i)))
		}
	case reflect.Slice:
		all := v.Slice(0, v.Cap())
		fresh.Set(reflect.MakeSlice(v.Type(), v.Cap(), v.Cap()))
		for i := range v.Cap() {
			fresh.Index(i).Set(entire(all.Index(i)))
		}
	default:
		fresh.Set(v)
	}
	return fresh
}

// kept gives a look whether the value, spare room included, is what it was.
func kept[T any](t *testing.T, v T) func(what string) {
	was := entire(reflect.ValueOf(v)).Interface()
	return func(what string) {
		t.Helper()
		if !reflect.DeepEqual(entire(reflect.ValueOf(v)).Interface(), was) {
			t.Errorf("P15.4: %s: what was handed in has changed", what)
		}
	}
}

// room is the memory of a list, spare room included.
type room struct{ from, to uintptr }

// rooms: of all lists of a value, and of those in them; of a module too.
func rooms(v reflect.Value) []room {
	var all []room
	switch v.Kind() {
	case reflect.Pointer:
		all = rooms(v.Elem())
	case reflect.Struct:
		for i := range v.NumField() {
			all = append(all, rooms(v.Field(i))...)
		}
	case reflect.Map:
		for _, k := range v.MapKeys() {
			all = append(all, rooms(v.MapIndex(k))...)
		}
	case reflect.Slice:
		if v.Cap() > 0 {
			all = append(all, room{v.Pointer(), v.Pointer() + uintptr(v.Cap())*v.Type().Elem().Size()})
		}
		if k := v.Type().Elem().Kind(); k == reflect.Struct || k == reflect.Slice {
			for i := range v.Len() {
				all = append(all, rooms(v.Index(i))...)
			}
		}
	}
	return all
}

// wantApart looks whether no two lists of all these values share memory.
func wantApart(t *testing.T, what string, values ...any) {
	t.Helper()
	var all []room
	for _, v := range values {
		all = append(all, rooms(reflect.ValueOf(v))...)
	}
	slices.SortFunc(all, func(a, b room) int {
		if a.from < b.from {
			return -1
		}
		return 1
	})
	for i := 1; i < len(all); i++ {
		if all[i].from < all[i-1].to {
			t.Fatalf("P15.4: %s: two lists share memory", what)
		}
	}
}

func one[T any](r *rand.Rand, of ...T) T { return of[r.Intn(len(of))] }

func someBytes(r *rand.Rand, n int) string {
	b := make([]byte, n)
	r.Read(b)
	return string(b)
}

// moved is a module, and what was taken off it.
type moved struct {
	t    *testing.T
	m    *module.Module
	held map[int]api.State
}

func (m *moved) take(part int) { m.held[part] = take(m.t, m.m, part) }

func (m *moved) put(part int) { put(m.t, m.m, part, m.held[part]) }
