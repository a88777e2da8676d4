package link_test

import (
	"math"
	"math/rand"
	"reflect"
	"slices"
	"strings"
	"testing"

	"ferry/api"
	"ferry/crc"
	"ferry/link"
)

// record is one letter of a model: all that ever were stay in its list, one behind the other.
type record struct {
	now    api.Letter
	sent   string // as it was sent, or as that was of which it is a copy
	spoilt bool
	spent  bool
}

// model is a second link.
type model struct {
	list []record
	seen map[string]int
}

func (m *model) find(n int) *record {
	if n < 1 || n > len(m.list) || m.list[n-1].spent {
		return nil
	}
	return &m.list[n-1]
}

func (m *model) send(a api.Letter) (int, error) {
	if a.From+a.To != 1 || a.From*a.To != 0 {
		return 0, api.ErrArg
	}
	if a.Bytes == "" || len(a.Bytes) > 4096 {
		return 0, api.ErrSize
	}
	m.list = append(m.list, record{now: a, sent: a.Bytes})
	return len(m.list), nil
}

func (m *model) look(n int) (api.Letter, bool, error) {
	x := m.find(n)
	if x == nil {
		return api.Letter{}, false, api.ErrNone
	}
	return x.now, x.spoilt, nil
}

func (m *model) take(n int) (api.Letter, error) {
	x := m.find(n)
	if x == nil {
		return api.Letter{}, api.ErrNone
	}
	x.spent = true
	return x.now, nil
}

func (m *model) copy(n int) (int, error) {
	x := m.find(n)
	if x == nil {
		return 0, api.ErrNone
	}
	m.list = append(m.list, *x)
	return len(m.list), nil
}

func (m *model) trim(n, cut int) error {
	x := m.find(n)
	if x == nil {
		return api.ErrNone
	}
	if x.spoilt || cut < 1 {
		return api.ErrArg
	}
	for range min(cut, 4096) {
		if size := len(x.now.Bytes); size > 0 {
			x.now.Bytes = x.now.Bytes[:size-1]
		}
	}
	x.spoilt = true
	return nil
}

func (m *model) flip(n, at int, mask uint32) error {
	x := m.find(n)
	if x == nil {
		return api.ErrNone
	}
	s, is := turned(x.now.Bytes, at, mask)
	if x.spoilt || !is {
		return api.ErrArg
	}
	x.now.Bytes, x.spoilt = s, true
	return nil
}

func (m *model) waiting(to int) []int {
	var numbers []int
	for i, x := range m.list {
		if !x.spent && x.now.To == to {
			numbers = append(numbers, i+1)
		}
	}
	return numbers
}

func (m *model) flush(to int) int {
	numbers := m.waiting(to)
	for _, n := range numbers {
		m.list[n-1].spent = true
	}
	return len(numbers)
}

// both is a link and its model.
type both struct {
	t  *testing.T
	r  *rand.Rand
	l  *link.Link
	as *model
}

// number: mostly that of a letter under way; now and then of one that is spent, or of none.
func (b both) number() int {
	if under := append(b.as.waiting(0), b.as.waiting(1)...); len(under) > 0 && b.r.Intn(5) > 0 {
		return one(b.r, under...)
	}
	return one(b.r, 0, -1, len(b.as.list), len(b.as.list)+1, 1+b.r.Intn(len(b.as.list)+1), math.MaxInt, math.MinInt)
}

// told looks at a call's error, and counts it.
func (b both) told(call string, err, want error) {
	b.t.Helper()
	wantBare(b.t, "P21.1: "+call, err, want)
	word := "none"
	if want != nil {
		word = want.Error()
	}
	b.as.seen[call+", "+word]++
}

// call makes any call on both, and looks at the answers.
func (b both) call() {
	b.t.Helper()
	n := b.number()
	switch b.r.Intn(20) {
	case 0, 1, 2, 3, 4:
		b.send()
	case 5, 6, 7:
		x, err := b.l.Take(n)
		want, wanted := b.as.take(n)
		if b.told("Take", err, wanted); x != want {
			b.t.Fatalf("P21.1: Take(%d) = %#v, want %#v", n, x, want)
		}
	case 8:
		want := error(nil)
		if _, err := b.as.take(n); err != nil {
			want = err
		}
		b.told("Drop", b.l.Drop(n), want)
	case 9, 10, 11:
		k, err := b.l.Copy(n)
		want, wanted := b.as.copy(n)
		if b.told("Copy", err, wanted); k != want {
			b.t.Fatalf("P21.1: Copy(%d) = %d, want %d", n, k, want)
		}
	case 12, 13, 14:
		cut := one(b.r, 1, 1, 2, 3, b.r.Intn(9), 4096, math.MaxInt, 0, -1, math.MinInt)
		err := b.l.Trim(n, cut)
		b.told("Trim", err, b.as.trim(n, cut))
	case 15, 16, 17, 18:
		at, mask := one(b.r, b.r.Intn(30), b.r.Intn(30), b.r.Intn(120), -1, math.MaxInt), b.r.Uint32()>>b.r.Intn(32)
		err := b.l.Flip(n, at, mask)
		b.told("Flip", err, b.as.flip(n, at, mask))
	default:
		to := one(b.r, 0, 1, 0, 1, 2, -1)
		if b.r.Intn(4) == 0 {
			wantFlushed(b.t, b.l, to, b.as.flush(to))
		}
	}
}

func (b both) send() {
	b.t.Helper()
	a := api.Letter{From: b.r.Intn(2), Bytes: someBytes(b.r, one(b.r, 1, 2, 5, 9, 27, 1+b.r.Intn(20)))}
	a.To = 1 - a.From
	switch b.r.Intn(20) {
	case 0:
		a.Bytes = ""
	case 1:
		a.Bytes = strings.Repeat("s", 4096+b.r.Intn(2))
	case 2:
		a.From = one(b.r, -1, 0, 1, 2)
	case 3:
		a.To = one(b.r, -1, 0, 1, 2)
	}
	n, err := b.l.Send(a)
	want, wanted := b.as.send(a)
	if b.told("Send", err, wanted); n != want {
		b.t.Fatalf("P21.1: Send = %d, want %d", n, want)
	}
}

// look looks at all that can be asked.
func (b both) look() {
	b.t.Helper()
	if b.l.Made() != len(b.as.list) {
		b.t.Fatalf("P21.1: Made = %d, want %d", b.l.Made(), len(b.as.list))
	}
	var under []int
	for to := -1; to <= 2; to++ {
		got, want := b.l.Waiting(to), b.as.waiting(to)
		if !slices.Equal(got, want) {
			b.t.Fatalf("P21.3: Waiting(%d) = %v, want %v", to, got, want)
		}
		under = append(under, got...)
	}
	for i := range len(b.as.list) + 2 {
		a, spoilt, err := b.l.Look(i)
		want, is, wanted := b.as.look(i)
		wantBare(b.t, "P21.1: Look", err, wanted)
		if a != want || spoilt != is || slices.Contains(under, i) != (err == nil) {
			b.t.Fatalf("P21.1: Look(%d) = %#v, %v, want %#v, %v", i, a, spoilt, want, is)
		}
		if err == nil {
			wantOnce(b.t, b.as.list[i-1].sent, a.Bytes, spoilt, b.as.seen)
		}
	}
}

// wantOnce: P21.2: the letter is what was sent, or that with one burst turned, or a strict beginning of it.
func wantOnce(t *testing.T, sent, now string, spoilt bool, seen map[string]int) {
	t.Helper()
	_, _, err := crc.Burst([]byte(sent), []byte(now))
	switch {
	case sent == now && !spoilt:
		seen["as sent"]++
	case len(now) < len(sent) && strings.HasPrefix(sent, now) && spoilt:
		seen["a strict beginning"]++
	case err == nil && spoilt:
		seen["a burst"]++
	default:
		t.Fatalf("P21.2: %q was sent, and is %q, spoilt %v", sent, now, spoilt)
	}
}

// TestAgainstModel: P21.1 to P21.3, of rows of calls on three links side by side.
func TestAgainstModel(t *testing.T) {
	r := rand.New(rand.NewSource(211))
	seen := map[string]int{}
	for range 400 {
		var links []both
		for range 3 {
			links = append(links, both{t, r, link.New(), &model{seen: seen}})
		}
		for range 100 {
			one(r, links...).call()
			for _, b := range links {
				b.look()
			}
			if t.Failed() {
				t.FailNow()
			}
		}
	}
	none, arg, size := ", "+api.ErrNone.Error(), ", "+api.ErrArg.Error(), ", "+api.ErrSize.Error()
	for _, what := range []string{
		"Send, none", "Send" + arg, "Send" + size, "Take, none", "Take" + none, "Drop, none", "Drop" + none, "Copy, none", "Copy" + none,
		"Trim, none", "Trim" + none, "Trim" + arg, "Flip, none", "Flip" + none, "Flip" + arg, "as sent", "a strict beginning", "a burst",
	} {
		if seen[what] < 100 {
			t.Errorf("%s: came about only %d times", what, seen[what])
		}
	}
}

// TestSpentOnce: P21.3, in each way of spending: however a letter is taken, dropped and flushed, and copied before, it comes out once at most.
func TestSpentOnce(t *testing.T) {
	for first := range 3 {
		for second := range 3 {
			l := link.New()
			wantSent(t, l, there("once"), 1)
			wantCopied(t, l, 1, 2)
			out := 0
			for _, way := range []int{first, second} {
				switch way {
				case 0:
					if a, err := l.Take(1); err == nil && a == there("once") {
						out++
					}
				case 1:
					l.Drop(1)
				case 2:
					l.Flush(1)
				}
				wantNoLetter(t, l, 1)
			}
			want := 0
			if first == 0 {
				want = 1
			}
			if out != want {
				t.Errorf("P21.3: it was taken %d times, want %d", out, want)
			}
			if first != 2 && second != 2 {
				wantTaken(t, l, 2, there("once"))
			}
			wantNoLetter(t, l, 2)
		}
	}
}

// TestDeleted: the Ways: what is under way lies in a map, and nothing else does.
func TestDeleted(t *testing.T) {
	r := rand.New(rand.NewSource(212))
	b := both{t, r, link.New(), &model{seen: map[string]int{}}}
	for range 2000 {
		b.call()
		held := 0
		v := reflect.ValueOf(b.l).Elem()
		for i := range v.NumField() {
			if k := v.Field(i).Kind(); k == reflect.Map || k == reflect.Slice {
				held += v.Field(i).Len()
			}
		}
		if under := len(b.l.Waiting(0)) + len(b.l.Waiting(1)); held != under {
			t.Fatalf("the Ways: %d letters are held, %d are under way", held, under)
		}
	}
}
