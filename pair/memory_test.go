package pair_test

import (
	"fmt"
	"math/rand"
	"reflect"
	"testing"

	"ferry/api"
	"ferry/pair"
)

// TestMemory: P24.7: what is handed in is neither changed nor kept, what is answered is new memory, and two pairs have nothing in common: whatever is written into all that, a second pair, made of the same and left alone, answers the same.
func TestMemory(t *testing.T) {
	r := rand.New(rand.NewSource(247))
	seen := map[string]int{}
	for range 60 {
		c := someConfig(t, r)
		inputs := someInputs(r, c)
		theirs, given := roomy(c), roomy(inputs)
		look := kept(t, theirs, given)
		p := newPair(t, theirs, given...)
		look("New")
		other := newPair(t, theirs, given...)
		for range 20 { // another pair of the same configuration goes its own ways
			for _, o := range someOps(r, other, c, 5) {
				other.Step(o)
			}
		}
		look("Step")
		spoil(reflect.ValueOf(theirs))
		spoil(reflect.ValueOf(given))
		q := newPair(t, c, inputs...)
		for range 60 {
			for _, o := range someOps(r, q, c, 8) {
				a, b := p.Step(o), q.Step(o)
				wantSame(t, fmt.Sprintf("P24.7: %+v", o), a, b)
				seen["outs"] += len(a.Outs)
				for _, n := range append(q.Waiting(0), q.Waiting(1)...) {
					one, _, _ := p.Letter(n)
					two, _, _ := q.Letter(n)
					wantSame(t, "P24.7: a letter", one, two)
					seen["letters"]++
				}
				wantAnswersApart(t, p, c, a)
				if t.Failed() {
					t.FailNow()
				}
			}
		}
	}
	wantEnough(t, seen, 100, "outs", "letters")
}

// wantAnswersApart: no two answers share memory, and they may be written to.
func wantAnswersApart(t *testing.T, p *pair.Pair, c api.Config, a api.Answer) {
	t.Helper()
	all := []any{a, p.Waiting(0), p.Waiting(0), p.Waiting(1)}
	for i := range c.Parts {
		for range 2 {
			s, _ := p.State(i)
			all = append(all, s)
		}
	}
	wantApart(t, "answers", all...)
	for _, v := range all {
		spoil(reflect.ValueOf(v))
	}
}

// TestPlayMemory: P24.7.
func TestPlayMemory(t *testing.T) {
	r := rand.New(rand.NewSource(248))
	for range 40 {
		c := someConfig(t, r)
		s := api.Script{Config: c, Inputs: someInputs(r, c)}
		p := newPair(t, c, s.Inputs...)
		for range 40 {
			s.Ops = append(s.Ops, someOps(r, p, c, 8)...)
			p.Step(s.Ops[len(s.Ops)-1])
		}
		given := roomy(s)
		look := kept(t, given)
		first, err := pair.Play(given)
		wantBare(t, "P24.1: Play", err, nil)
		second, err := pair.Play(given)
		wantBare(t, "P24.1: Play", err, nil)
		look("Play")
		wantApart(t, "Play", given, first, second)
		wantSame(t, "P24.1: Play again", first, second)
		spoil(reflect.ValueOf(first))
		wantSame(t, "P24.1: Play is Step by Step", second, stepped(t, s))
	}
}

// stepped: the answers to the script's steps, one by one.
func stepped(t *testing.T, s api.Script) []api.Answer {
	t.Helper()
	p := newPair(t, s.Config, s.Inputs...)
	var l []api.Answer
	for _, o := range s.Ops {
		l = append(l, p.Step(o))
	}
	return l
}
