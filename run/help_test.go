package run_test

import (
	"math"
	"math/rand"
	"runtime/debug"
	"strings"
	"testing"

	"ferry/api"
	"ferry/text"
)

// TestMain: the plays make much that lives for a moment only; sweeping after each bit of it would take longer than they do.
func TestMain(m *testing.M) {
	debug.SetGCPercent(200)
	m.Run()
}

// wantText holds an answer against what it is to be.
func wantText(t *testing.T, what, got, want string) {
	t.Helper()
	if got == want {
		return
	}
	// The first line in which they part says more than both of them whole.
	a, b := strings.SplitAfter(got, "\n"), strings.SplitAfter(want, "\n")
	for i := range max(len(a), len(b)) {
		if i >= len(a) || i >= len(b) || a[i] != b[i] {
			t.Errorf("%s: from line %d on %.300q, want %.300q", what, i+1, strings.Join(a[min(i, len(a)):], ""), strings.Join(b[min(i, len(b)):], ""))
			return
		}
	}
}

// lines: these lines, each with its end.
func lines(l ...string) string { return strings.Join(l, "\n") + "\n" }

// steps: the lines of a text in which a semicolon stands for each line's end.
func steps(text string) string { return lines(strings.Split(text, ";")...) }

// parsed: the script of a text that is right.
func parsed(t *testing.T, source string) api.Script {
	t.Helper()
	s, err := text.Parse(source)
	if err != nil {
		t.Fatalf("text.Parse: %v at %d", err, api.Place(err))
	}
	return s
}

// printed: the text of a script that can be written.
func printed(t *testing.T, s api.Script) string {
	t.Helper()
	source, err := text.Print(s)
	if err != nil {
		t.Fatalf("text.Print: %v at %d", err, api.Place(err))
	}
	return source
}

// someNumber: any number at all.
func someNumber(r *rand.Rand) int {
	return one(r, 0, 1, -1, 2, 9, 10, -10, 99, 100, math.MaxInt, math.MaxInt-1, math.MinInt, math.MinInt+1, r.Intn(1000), int(r.Uint64()))
}

func one[T any](r *rand.Rand, of ...T) T { return of[r.Intn(len(of))] }

// seldom: once in so many times.
func seldom(r *rand.Rand, in int) bool { return r.Intn(in) == 0 }

func coin(r *rand.Rand) bool { return r.Intn(2) == 0 }

func someBytes(r *rand.Rand, n int) []byte {
	b := make([]byte, n)
	r.Read(b)
	return b
}

// wantEnough looks whether each of these was seen so often.
func wantEnough(t *testing.T, seen map[string]int, times int, of ...string) {
	t.Helper()
	for _, what := range of {
		if seen[what] < times {
			t.Errorf("the plays came to %q only %d times", what, seen[what])
		}
	}
}
