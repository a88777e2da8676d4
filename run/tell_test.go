package run_test

import (
	"math"
	"math/rand"
	"testing"

	"ferry/api"
	"ferry/run"
)

// TestWord: P27.1.
func TestWord(t *testing.T) {
	for code, want := range map[int]string{
		0: "ok", 1: "short", 2: "rest", 3: "tag", 4: "range", 5: "length", 6: "sum", 7: "kind", 8: "plan", 9: "state", 10: "base",
		11: "size", 12: "argument", 13: "end", 14: "busy", 15: "down", 16: "lost", 17: "none", 18: "text", 19: "stop", 20: "divide",
		21: "error 21", 99: "error 99", -1: "error -1", -20: "error -20", 1 << 32: "error 4294967296",
		math.MaxInt: "error 9223372036854775807", math.MinInt: "error -9223372036854775808",
	} {
		wantText(t, "P27.1: Word", run.Word(code), want)
	}
}

// TestTell: P27.2: the chapter's examples, and each kind of line.
func TestTell(t *testing.T) {
	of := func(o api.Out) api.Answer {
		return api.Answer{Outs: []api.PartOut{{Module: 1, Part: 2, Frame: 3, Out: o}}}
	}
	for _, x := range []struct {
		n    int
		a    api.Answer
		want string
	}{
		{3, api.Answer{}, "3 ok"},
		{4, api.Answer{Code: 14}, "4 busy"},
		{-5, api.Answer{Code: -7, Msg: -9}, "-5 error -7 letter -9"},
		{math.MaxInt, api.Answer{Code: 99, Msg: math.MaxInt}, "9223372036854775807 error 99 letter 9223372036854775807"},
		{math.MinInt, api.Answer{Code: 20, Msg: 1}, "-9223372036854775808 divide letter 1"},
		{0, api.Answer{Code: 17, Events: []api.Event{{Kind: 1}}}, "0 none;  p0 begun m0"},
		{1, of(api.Out{Msgs: []api.Msg{{Port: 4}}}), "1 ok;  m1 p2 f3 port 4 -"},
		{1, of(api.Out{Msgs: []api.Msg{{Port: -4, Data: "\x00\n\xffz "}}}), "1 ok;  m1 p2 f3 port -4 000aff7a20"},
		{1, of(api.Out{Reports: []api.Report{{Kind: 1, Proc: 6, Code: 7, Pc: 8}}}), "1 ok;  m1 p2 f3 fault 7 proc 6 pc 8"},
		{1, of(api.Out{Reports: []api.Report{{Kind: 2, Code: 1 << 31, Pc: 1<<32 - 1}}}), "1 ok;  m1 p2 f3 raise 2147483648 proc 0 pc 4294967295"},
		{1, of(api.Out{Reports: []api.Report{{Kind: 3, Proc: -1, Code: 1<<32 - 1}}}), "1 ok;  m1 p2 f3 drop 4294967295 proc -1 pc 0"},
		{1, of(api.Out{Reports: []api.Report{{Kind: 0}, {Kind: 4}, {Kind: -1}, {Kind: math.MinInt}}}), "1 ok;  m1 p2 f3 report 0 0 proc 0 pc 0;  m1 p2 f3 report 4 0 proc 0 pc 0;  m1 p2 f3 report -1 0 proc 0 pc 0;  m1 p2 f3 report -9223372036854775808 0 proc 0 pc 0"},
		{1, of(api.Out{Reports: []api.Report{{Kind: 3}}, Msgs: []api.Msg{{Data: "b"}, {Data: "a"}}}), "1 ok;  m1 p2 f3 port 0 62;  m1 p2 f3 port 0 61;  m1 p2 f3 drop 0 proc 0 pc 0"},
		{1, of(api.Out{}), "1 ok"},
		{1, api.Answer{Events: []api.Event{{Kind: 1, Part: 5, Module: 1}, {Kind: 2}, {Kind: 3}, {Kind: 4}, {Kind: 5}, {Kind: 6}, {Kind: 7}, {Kind: 8}, {Kind: 9, Part: -1, Module: -2}}},
			"1 ok;  p5 begun m1;  p0 frozen m0;  p0 released m0;  p0 started m0;  p0 over m0;  p0 aborted m0;  p0 back m0;  p0 taken m0;  p-1 lost m-2"},
		{1, api.Answer{Events: []api.Event{{Kind: 0}, {Kind: 10}, {Kind: -3}, {Kind: math.MaxInt}}}, "1 ok;  p0 event 0 m0;  p0 event 10 m0;  p0 event -3 m0;  p0 event 9223372036854775807 m0"},
	} {
		wantText(t, "P27.2: Tell", run.Tell(x.n, x.a), steps(x.want))
	}
}

// someAnswer: anything at all.
func someAnswer(r *rand.Rand) api.Answer {
	a := api.Answer{Code: one(r, 0, r.Intn(24), someNumber(r)), Msg: one(r, 0, someNumber(r))}
	for range r.Intn(4) {
		x := api.PartOut{Module: someNumber(r), Part: someNumber(r), Frame: someNumber(r)}
		for range r.Intn(3) {
			x.Out.Msgs = append(x.Out.Msgs, api.Msg{Port: someNumber(r), Data: string(someBytes(r, one(r, 0, 1, 2, 40)))})
		}
		for range r.Intn(3) {
			x.Out.Reports = append(x.Out.Reports, api.Report{Kind: one(r, r.Intn(6)-1, someNumber(r)), Proc: someNumber(r), Code: r.Uint32(), Pc: r.Uint32()})
		}
		a.Outs = append(a.Outs, x)
	}
	for range r.Intn(4) {
		a.Events = append(a.Events, api.Event{Kind: one(r, r.Intn(12)-1, someNumber(r)), Part: someNumber(r), Module: someNumber(r)})
	}
	return a
}

// TestTellAnything: P27.2: every answer, whatever stands in it.
func TestTellAnything(t *testing.T) {
	r := rand.New(rand.NewSource(275))
	for range 20000 {
		n, a := someNumber(r), someAnswer(r)
		wantText(t, "P27.2: Tell", run.Tell(n, a), tell(n, a))
	}
}
