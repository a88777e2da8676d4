package run_test

import (
	"fmt"
	"math"
	"math/rand"
	"runtime"
	"slices"
	"strings"
	"testing"
	"time"

	"ferry/run"
)

func wantBatch(t *testing.T, texts []string, workers, lines int, want []string) {
	t.Helper()
	got := run.Batch(texts, workers, lines)
	if !slices.Equal(got, want) {
		t.Errorf("P27.7: Batch of %d texts by %d up to %d lines: %.400q, want %.400q", len(texts), workers, lines, got, want)
	}
}

// TestBatch: P27.7: the chapter's example, and where the telling stops.
func TestBatch(t *testing.T) {
	two := counting + "frame\n" // three lines
	told := run.Run(two)
	texts := []string{"", two, "x", counting}
	all := []string{"line 1 text\n", told, "line 1 text\n", run.Run(counting)}
	for _, workers := range []int{math.MinInt, -1, 0, 1, 2, 3, 15, 16, 17, math.MaxInt} {
		wantBatch(t, []string{"", "x"}, workers, 1, []string{"line 1 text\n", "stopped\n"})
		wantBatch(t, []string{"", "x"}, workers, 0, []string{"stopped\n", "stopped\n"})
		for lines, most := range map[int]int{math.MinInt: 0, -1: 0, 0: 0, 1: 1, 2: 2, 3: 2, 4: 2, 5: 3, 6: 4, 7: 4, 1000: 4, math.MaxInt: 4} {
			want := slices.Clone(all)
			for i := most; i < len(want); i++ {
				want[i] = "stopped\n"
			}
			wantBatch(t, texts, workers, lines, want)
		}
		for _, lines := range []int{-1, 0, 1, 9} {
			wantBatch(t, nil, workers, lines, nil)
			wantBatch(t, []string{}, workers, lines, nil)
		}
		if got := run.Batch(nil, workers, 5); len(got) != 0 {
			t.Errorf("P27.7: Batch of no text: %q", got)
		}
	}
}

// TestBatches: P27.7: any texts, in any order of length, by any workers.
func TestBatches(t *testing.T) {
	t.Parallel()
	r := rand.New(rand.NewSource(277))
	seen := map[string]int{}
	for range 60 {
		var texts, answers []string
		for range r.Intn(24) {
			source := one(r, "", "x\n", "config 0 1\n", "config 10 1\npart 0 fixed\n")
			if !seldom(r, 3) {
				source = printed(t, someScript(t, r, one(r, 0, 1, 5, 40)))
			}
			texts, answers = append(texts, source), append(answers, run.Run(source))
		}
		whole := strings.Count(strings.Join(answers, ""), "\n")
		for range 6 {
			lines := one(r, r.Intn(whole+3), whole-1, whole, whole+1, 0, 1)
			want := batched(answers, lines)
			if n := slices.Index(want, "stopped\n"); n > 0 {
				seen["stopped on the way"]++
			} else if n < 0 {
				seen["not stopped"]++
			}
			for _, workers := range []int{1, 2, 5, 16} {
				wantBatch(t, texts, workers, lines, want)
			}
		}
	}
	wantEnough(t, seen, 20, "stopped on the way", "not stopped")
}

// TestBatchKeeps: R2: the texts stay, the spare room behind them too, and the answers are new memory.
func TestBatchKeeps(t *testing.T) {
	texts := []string{counting, "", counting + "frame\n", "spare", "room"}
	was := slices.Clone(texts)
	first := run.Batch(texts[:3], 4, 100)
	second := run.Batch(texts[:3], 4, 100)
	clear(first)
	if !slices.Equal(texts, was) {
		t.Errorf("R2: Batch changed its texts: %q", texts)
	}
	if !slices.Equal(second, []string{run.Run(was[0]), run.Run(was[1]), run.Run(was[2])}) {
		t.Errorf("R2: two answers share memory: %q", second)
	}
}

// long: a script of so many frames, each of which takes its time.
func long(frames int) string {
	return "config 10000 1\npart 0 fixed\npage x 3000ffff\nproc 0 0 auto\nwindow 0 0 10000\n" + strings.Repeat("frame\n", frames)
}

// TestBatchEnds: R6: all that was set going has ended, wherever it was stopped; and what nobody wants any more isn't run to its end.
func TestBatchEnds(t *testing.T) {
	texts := []string{"", counting + "frame\n"}
	for range 40 {
		texts = append(texts, long(20))
	}
	for range 5 {
		for _, workers := range []int{1, 3, 16} {
			for _, lines := range []int{0, 1, 3, 24} {
				run.Batch(texts, workers, lines)
				wantQuiet(t, fmt.Sprintf("%d workers, %d lines", workers, lines))
			}
		}
	}
	// It would take minutes.
	endless := []string{"", long(200000), long(200000), long(200000)}
	begin := time.Now()
	for _, workers := range []int{1, 4, 16} {
		wantBatch(t, endless, workers, 1, []string{"line 1 text\n", "stopped\n", "stopped\n", "stopped\n"})
		wantQuiet(t, "endless ones")
	}
	if took := time.Since(begin); took > time.Minute {
		t.Errorf("R6: Batch ran for %v what nobody wanted", took)
	}
}

// wantQuiet: no goroutine is in the program any more. (One that has told its end to Batch may take a moment to go.)
func wantQuiet(t *testing.T, what string) {
	t.Helper()
	stacks := make([]byte, 1<<20)
	for _, line := range strings.Split(string(stacks[:runtime.Stack(stacks, true)]), "\n") {
		if strings.HasPrefix(line, "ferry/") && !strings.HasPrefix(line, "ferry/run_test.") && !strings.HasPrefix(line, "ferry/run.Batch") {
			t.Fatalf("R6: %s: behind Batch something is still at %s", what, line)
		}
	}
}
