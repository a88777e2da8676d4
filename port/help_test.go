package port_test

import (
	"errors"
	"math/rand"
	"slices"
	"strings"
	"testing"

	"ferry/api"
)

// wantBare looks whether err is just that error (or none), without a place.
func wantBare(t *testing.T, what string, err, want error) {
	t.Helper()
	var at *api.At
	if api.Code(err) != api.Code(want) || errors.As(err, &at) {
		t.Errorf("%s: error %v at %d, want %v without a place", what, err, api.Place(err), want)
	}
}

// wantAt looks whether err is that error, at that place.
func wantAt(t *testing.T, what string, err, want error, place int) {
	t.Helper()
	var at *api.At
	if api.Code(err) != api.Code(want) || !errors.As(err, &at) || at.Place != place {
		t.Errorf("%s: error %v at %d, want %v at %d", what, err, api.Place(err), want, place)
	}
}

// The plans of the chapter's examples.
func planS() api.PortPlan { return api.PortPlan{Kind: api.SampleIn, Size: 4, Depth: 1, Refresh: 2} }

func planQ() api.PortPlan { return api.PortPlan{Kind: api.QueueIn, Size: 4, Depth: 2} }

func planO() api.PortPlan { return api.PortPlan{Kind: api.QueueOut, Size: 4, Depth: 2} }

func planL() api.PortPlan { return api.PortPlan{Kind: api.SampleOut, Size: 4, Depth: 1} }

// holding: a port in whose list there is spare room.
func holding(age int, msgs ...string) api.Port {
	return api.Port{Msgs: append(roomy[string](len(msgs)), msgs...), Age: age}
}

// roomy: an empty list with room for more than the n elements that come into it.
func roomy[T any](n int) []T { return make([]T, 0, n+12) }

func whole[T any](list []T) []T { return list[:cap(list)] }

func same(a, b api.Port) bool { return a.Age == b.Age && slices.Equal(a.Msgs, b.Msgs) }

func samePorts(a, b []api.Port) bool { return slices.EqualFunc(a, b, same) }

// wantPort looks whether a port holds just this.
func wantPort(t *testing.T, what string, got api.Port, age int, msgs ...string) {
	t.Helper()
	if got.Age != age || !slices.Equal(got.Msgs, msgs) {
		t.Errorf("%s: %q %d, want %q %d", what, got.Msgs, got.Age, msgs, age)
	}
}

// kept gives a look whether the ports, spare room included, are what they were.
func kept(t *testing.T, ports ...api.Port) func(what string) {
	was := make([][]string, len(ports))
	for i, q := range ports {
		for k, m := range whole(q.Msgs)[len(q.Msgs):] {
			if m == "" {
				whole(q.Msgs)[len(q.Msgs)+k] = "spare"
			}
		}
		was[i] = slices.Clone(whole(q.Msgs))
	}
	return func(what string) {
		t.Helper()
		for i, q := range ports {
			if !slices.Equal(whole(q.Msgs), was[i]) {
				t.Errorf("R2: %s: what was handed in has changed", what)
			}
		}
	}
}

// spoil overwrites an answer, spare room included: whoever shares memory with it shows it.
func spoil(lists ...[]string) {
	for _, list := range lists {
		for i := range whole(list) {
			whole(list)[i] = "spoilt"
		}
	}
}

// somePlan: any plan in form.
func somePlan(r *rand.Rand) api.PortPlan {
	p := api.PortPlan{Kind: 1 + r.Intn(4), Size: 1 + r.Intn(6), Depth: 1}
	switch p.Kind {
	case api.SampleIn:
		p.Refresh = r.Intn(4)
	case api.QueueIn, api.QueueOut:
		p.Depth = 1 + r.Intn(8)
	}
	if r.Intn(8) == 0 {
		p.Size = 32
	}
	return p
}

// somePort: any port that fits the plan.
func somePort(r *rand.Rand, p api.PortPlan) api.Port {
	q := holding(0)
	for range r.Intn(p.Depth + 1) {
		q.Msgs = append(q.Msgs, someData(r, p.Size))
	}
	if p.Kind == api.SampleIn && len(q.Msgs) == 1 {
		q.Age = []int{0, 1, 2, 254, 255}[r.Intn(5)]
	}
	return q
}

// someData: at most so many bytes, of any value.
func someData(r *rand.Rand, most int) string {
	b := make([]byte, r.Intn(most+1))
	r.Read(b)
	return string(b)
}

func long(n int) string { return strings.Repeat("x", n) }
