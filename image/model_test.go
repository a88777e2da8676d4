package image_test

import (
	"encoding/binary"
	"math/rand"
	"regexp"
	"slices"
	"testing"

	"ferry/api"
	"ferry/image"
	"ferry/plan"
	"ferry/valid"
	"ferry/wire"
)

// imageOf: an image ahead of its sum, written from behind to the front, so that each length is known when it is written. The state may break any rule, but its numbers fit.
func imageOf(p api.Plan, s api.State) []byte {
	var b []byte
	word := func(n int) []byte { return binary.BigEndian.AppendUint32(nil, uint32(n)) }
	record := func(tag byte, body []byte) {
		b = slices.Concat([]byte{tag, byte(len(body) >> 8), byte(len(body))}, body, b)
	}
	for _, q := range slices.Backward(s.Pages) {
		record(9, append([]byte{flag(q.Dirty)}, q.Data[:]...))
	}
	for _, q := range slices.Backward(s.Ports) {
		body := []byte{byte(q.Age), byte(len(q.Msgs))}
		for _, m := range q.Msgs {
			body = append(append(body, byte(len(m))), m...)
		}
		record(8, body)
	}
	record(7, eachByte(s.Sems))
	var events, timers []byte
	for _, up := range s.Up {
		events = append(events, flag(up))
	}
	record(6, events)
	for _, x := range s.Timers {
		timers = slices.Concat(timers, []byte{byte(x.Proc)}, word(x.Due))
	}
	record(5, timers)
	record(4, eachByte(s.Ready))
	for _, q := range slices.Backward(s.Procs) {
		var body []byte
		for k := 1; k < 16; k++ {
			body = append(body, word(int(q.Regs[k]))...)
		}
		record(3, slices.Concat(body, word(int(q.Pc)), eachByte([]int{q.State, q.Prio, q.Wait, q.Obj})))
	}
	record(1, append(word(s.Frame), word(s.Epoch)...))
	sum, err := plan.Sum(p)
	if err != nil {
		panic(err)
	}
	return slices.Concat([]byte("FERY\x00\x01\x00\x01"), word(len(b)+24), word(int(sum)), word(p.Id), b)
}

func flag(is bool) byte {
	if is {
		return 1
	}
	return 0
}

func eachByte(list []int) []byte {
	var b []byte
	for _, n := range list {
		b = append(b, byte(n))
	}
	return b
}

// TestThereAndBack: of any state at rest, against the model; memory.
func TestThereAndBack(t *testing.T) {
	r := rand.New(rand.NewSource(164))
	for range 4000 {
		p := roomy(somePlan(r))
		s := roomy(someState(t, r, p))
		look, lookPlan := kept(t, s), kept(t, p)
		b := encode(t, p, s)
		if !slices.Equal(b, sealed(imageOf(p, s))) {
			t.Fatalf("P16.2: Encode(%v, %v) = %x", p, s, b)
		}
		size, err := image.Size(p, s)
		wantNone(t, "P16.2: Size", err)
		recs, err := image.Fields(p, s)
		wantNone(t, "P16.2: Fields", err)
		all, err := image.Records(b)
		wantNone(t, "P16.1: Records", err)
		wantRecs(t, "P16.2: Fields", recs, all[:len(all)-len(s.Pages)])
		from := roomy(b)
		lookBytes := kept(t, from)
		got, err := image.Decode(p, from)
		wantNone(t, "P16.3: Decode", err)
		if !valid.Same(got, s) || size != len(b) {
			t.Fatalf("P16.3: Decode = %v, want %v; Size %d", got, s, size)
		}
		other, _ := image.Decode(p, from)
		fields, _ := image.Fields(p, s)
		filled, _ := image.Fill(all)
		again := encode(t, p, s)
		look("Encode, Size and Fields")
		lookPlan("Encode, Size, Fields and Decode")
		lookBytes("Decode")
		wantApart(t, "Encode, Fields, Fill and Decode", p, s, b, recs, all, from, got, other, fields, filled, again)
		if t.Failed() {
			t.FailNow()
		}
	}
}

// turns: ways to put something of a state otherwise, so that it still can be written.
func turns(r *rand.Rand) []func(s *api.State) {
	octet := func() int { return one(r, 0, 1, 2, 3, 4, 5, 7, 8, 254, 255) }
	word := func() int { return one(r, 0, 1, 2, 1010000, 1010001, 1<<31-1, 1<<31, 1<<32-1) }
	return []func(s *api.State){
		func(s *api.State) { s.Frame = word() },
		func(s *api.State) { s.Epoch = word() },
		func(s *api.State) { s.Procs = s.Procs[:r.Intn(len(s.Procs)+1)] },
		func(s *api.State) { s.Procs = append(s.Procs, api.Proc{}) },
		func(s *api.State) { pick(r, s.Procs).State = octet() },
		func(s *api.State) { pick(r, s.Procs).Wait = octet() },
		func(s *api.State) { pick(r, s.Procs).Obj = octet() },
		func(s *api.State) { *pick(r, s.Ready) = octet() },
		func(s *api.State) { s.Ready = append(s.Ready, octet()) },
		func(s *api.State) { pick(r, s.Timers).Proc = octet() },
		func(s *api.State) { pick(r, s.Timers).Due = word() },
		func(s *api.State) { s.Timers = append(s.Timers, api.Timer{Proc: octet(), Due: word()}) },
		func(s *api.State) { *pick(r, s.Up) = r.Intn(2) == 0 },
		func(s *api.State) { s.Up = append(s.Up, true)[r.Intn(2):] },
		func(s *api.State) { *pick(r, s.Sems) = octet() },
		func(s *api.State) { s.Sems = append(s.Sems, octet())[r.Intn(2):] },
		func(s *api.State) { pick(r, s.Ports).Age = octet() },
		func(s *api.State) { pick(r, s.Ports).Msgs = slices.Repeat([]string{"x"}, r.Intn(10)) },
		func(s *api.State) { pick(r, s.Ports).Msgs = []string{string(someBytes(r, r.Intn(34)))} },
		func(s *api.State) { s.Ports = append(s.Ports, api.Port{Age: octet()})[r.Intn(2):] },
		func(s *api.State) { s.Pages = append(s.Pages, api.Page{})[r.Intn(2):] },
		func(s *api.State) { pick(r, s.Pages).Data[0]++ },
	}
}

// pick: one of the list's; where there is none, one that belongs to nothing.
func pick[T any](r *rand.Rand, list []T) *T {
	if len(list) == 0 {
		return new(T)
	}
	return &list[r.Intn(len(list))]
}

// TestDecodeAsksRules: what can be written but isn't at rest is refused with the first broken rule's number.
func TestDecodeAsksRules(t *testing.T) {
	r := rand.New(rand.NewSource(165))
	seen := map[int]int{}
	for range 20000 {
		p := somePlan(r)
		s := someState(t, r, p)
		for range 1 + r.Intn(3) {
			one(r, turns(r)...)(&s)
		}
		for i := range s.Pages {
			s.Pages[i].Rights = 0
			if i < len(p.Pages) {
				s.Pages[i].Rights = p.Pages[i].Rights
			}
		}
		b := sealed(imageOf(p, s))
		if len(b) > api.MaxImage {
			continue
		}
		got, err := image.Decode(p, b)
		wanted := valid.Rest(p, s)
		if api.Code(err) != api.Code(wanted) || api.Place(err) != api.Place(wanted) {
			t.Fatalf("P16.2: Decode of %v: %v at %d, want %v at %d", s, err, api.Place(err), wanted, api.Place(wanted))
		}
		if seen[api.Place(err)]++; err == nil && !valid.Same(got, s) {
			t.Fatalf("P16.3: Decode = %v, want %v", got, s)
		}
	}
	// Rights and Id are the plan's, Regs[0] is in no image, and a byte can't be above 255.
	for _, rule := range []int{-1, 2, 3, 4, 5, 6, 7, 8, 9, 11, 12, 14, 15, 16, 17} {
		if seen[rule] < 10 {
			t.Errorf("the rule %d came first only %d times", rule, seen[rule])
		}
	}
}

// letters: the tags as a text, in which others stand as a dot.
func letters(recs []wire.Rec) string {
	var text []byte
	for _, r := range recs {
		if r.Tag >= 1 && r.Tag <= 10 {
			text = append(text, "abcdefghij"[r.Tag-1])
		} else {
			text = append(text, '.')
		}
	}
	return string(text)
}

var (
	fullText  = regexp.MustCompile(`^ac*defgh*i*$`)
	deltaText = regexp.MustCompile(`^abc*defgh*j*$`)
)

// grammarOf: what Grammar is to answer: a beginning may stand if some end makes a whole of it.
func grammarOf(kind int, recs []wire.Rec) (int, error) {
	whole, must := fullText, "adefg"
	switch kind {
	case 1:
	case 2:
		whole, must = deltaText, "abdefg"
	default:
		return -1, api.ErrKind
	}
	text := letters(recs)
	for n := 1; n <= len(text); n++ {
		stands := false
		for k := range len(must) + 1 {
			stands = stands || whole.MatchString(text[:n]+must[k:])
		}
		if !stands {
			return n - 1, api.ErrTag
		}
	}
	if !whole.MatchString(text) {
		return len(text), api.ErrShort
	}
	return -1, nil
}

// TestGrammarAgainstModel: all short lists, and lists that were all right ahead of being turned.
func TestGrammarAgainstModel(t *testing.T) {
	look := func(kind int, recs []wire.Rec) {
		t.Helper()
		place, wanted := grammarOf(kind, recs)
		want(t, "P16.1: Grammar", image.Grammar(kind, recs), wanted, place)
		if t.Failed() {
			t.Fatalf("kind %d, records %v", kind, recs)
		}
	}
	for n := range 12 * 12 * 12 {
		recs := recsOf(n%12, n/12%12, n/144)
		for size := range 4 {
			look(1, recs[:size])
			look(2, recs[:size])
		}
	}
	r := rand.New(rand.NewSource(166))
	for range 20000 {
		recs := someRecs(r, 1+r.Intn(2))
		for range r.Intn(3) {
			at := r.Intn(len(recs))
			switch r.Intn(4) {
			case 0:
				recs = append(slices.Delete(recs, at, at+1), wire.Rec{Tag: 9})
			case 1:
				recs = slices.Insert(recs, at, wire.Rec{Tag: r.Intn(12)})
			case 2:
				recs[at].Tag = one(r, r.Intn(12), -1, 256, 257)
			case 3:
				recs = recs[:at+1]
			}
		}
		look(one(r, 1, 1, 2, 2, 0, 3), recs)
	}
}

// decodeOf: what Decode is to answer for bytes whose sum is right, by the chapter's words; the state by the model of an image.
func decodeOf(p api.Plan, b []byte) (int, error) {
	kind, length := int(binary.BigEndian.Uint16(b[6:])), int(binary.BigEndian.Uint32(b[8:]))
	switch {
	case string(b[:4]) != "FERY":
		return 0, api.ErrTag
	case b[4] != 0 || b[5] != 1:
		return 4, api.ErrKind
	case kind != 1 && kind != 2:
		return 6, api.ErrKind
	case length != len(b):
		return 8, api.ErrLength
	}
	var recs []wire.Rec
	end := len(b) - 4
	for at := 20; at < end; {
		if end-at < 3 {
			return at, api.ErrShort
		}
		size := int(b[at+1])*256 + int(b[at+2])
		if b[at] == 0 {
			return at, api.ErrTag
		}
		if at+3+size > end {
			return at + 1, api.ErrLength
		}
		recs = append(recs, wire.Rec{Tag: int(b[at]), Body: b[at+3 : at+3+size]})
		at += 3 + size
	}
	if place, err := grammarOf(kind, recs); err != nil {
		return place, err
	}
	sum, _ := plan.Sum(p)
	switch {
	case kind != 1:
		return 6, api.ErrKind
	case binary.BigEndian.Uint32(b[12:]) != sum:
		return 12, api.ErrPlan
	case int(binary.BigEndian.Uint32(b[16:])) != p.Id:
		return 16, api.ErrPlan
	}
	for i, r := range recs {
		if err := bodyOf(r.Tag, r.Body); err != nil {
			return i, err
		}
	}
	return -1, nil
}

// bodyOf: the body error, by the chapter's words.
func bodyOf(tag int, body []byte) error {
	sizes := map[int]int{1: 8, 2: 8, 3: 68, 9: 65, 10: 65}
	if size, is := sizes[tag]; is && len(body) != size || tag == 5 && len(body)%5 != 0 {
		return api.ErrLength
	}
	if tag == 8 {
		if len(body) < 2 {
			return api.ErrLength
		}
		at := 2
		for n := 0; n < int(body[1]) && at < len(body); n++ {
			at += 1 + int(body[at])
			if n+1 < int(body[1]) && at >= len(body) {
				return api.ErrLength
			}
		}
		if at != len(body) || body[1] > 0 && len(body) == 2 {
			return api.ErrLength
		}
	}
	for i, c := range body {
		if c > 1 && (tag == 6 || tag == 9 && i == 0) {
			return api.ErrRange
		}
	}
	return nil
}

// smallPlan: a plan whose image is short, so that turns fall on its heads often.
func smallPlan(r *rand.Rand) api.Plan {
	for {
		if p := somePlan(r); len(p.Pages) == 1 && len(p.Procs) < 4 {
			return p
		}
	}
}

// TestDecodeAgainstModel: images that were turned, cut and stretched, and sealed anew.
func TestDecodeAgainstModel(t *testing.T) {
	r := rand.New(rand.NewSource(167))
	seen := map[int]int{}
	for range 30000 {
		p := smallPlan(r)
		s := someState(t, r, p)
		b := imageOf(p, s)
		for range 1 + r.Intn(2) {
			at := one(r, r.Intn(len(b)), r.Intn(32), len(b)-1-r.Intn(80))
			switch r.Intn(6) {
			case 0, 1, 2:
				b[at] = one(r, 0, 1, 2, 255, b[at]+1, b[at]-1, byte(r.Intn(12)))
			case 3:
				b = slices.Insert(b, max(at, 20), someBytes(r, r.Intn(4))...)
			case 4:
				b = slices.Delete(b, max(at, 20), min(len(b), max(at, 20)+r.Intn(4)))
			case 5:
				b[7] = byte(1 + r.Intn(2))
			}
			if r.Intn(8) > 0 {
				binary.BigEndian.PutUint32(b[8:], uint32(len(b)+4))
			}
		}
		b = sealed(b)
		place, wanted := decodeOf(p, b)
		got, err := image.Decode(p, b)
		seen[api.Code(err)]++
		switch {
		case wanted != nil:
			want(t, "P16.2: Decode", err, wanted, place)
		case err != nil && api.Code(err) != api.Code(api.ErrState):
			t.Errorf("P16.2: Decode: %v at %d", err, api.Place(err))
		case err == nil && (!slices.Equal(encode(t, p, got), b) || !slices.Equal(sealed(imageOf(p, got)), b)):
			t.Errorf("P16.3: Encode(Decode(b)) isn't b")
		}
		if t.Failed() {
			t.Fatalf("bytes %x", b)
		}
	}
	for _, code := range []int{0, 1, 3, 4, 5, 7, 8, 9} {
		if seen[code] < 50 {
			t.Errorf("the error %d came only %d times", code, seen[code])
		}
	}
}
