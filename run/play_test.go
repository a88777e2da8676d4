package run_test

import (
	"fmt"
	"math/rand"
	"strings"
	"testing"

	"ferry/api"
	"ferry/run"
)

// TestScripts: P27.3 to P27.6: random scripts answer what the second reading says.
func TestScripts(t *testing.T) {
	t.Parallel()
	r := rand.New(rand.NewSource(271))
	seen := map[string]int{}
	for range 500 {
		s := someScript(t, r, r.Intn(80))
		source := printed(t, s)
		wantText(t, "P27.3: Run", run.Run(source), ran(t, s, seen))
		verdicts := ""
		for n := range s.Config.Parts {
			frames := r.Intn(20)
			if isJoined(s.Config, n) {
				wantText(t, "P27.4: Alone of one with a channel", run.Alone(source, n, frames), "refused kind\n")
				verdicts += fmt.Sprintf("p%d joined\n", n)
				seen["joined"]++
				continue
			}
			wantText(t, "P27.4: Alone", run.Alone(source, n, frames), aloneTold(t, s, n, frames))
			verdicts += fmt.Sprintf("p%d as alone\n", n)
		}
		wantText(t, "P27.6: Judge", run.Judge(source), verdicts)
		still := s
		still.Ops = kept(s.Ops)
		wantText(t, "P27.5: Still", run.Still(source), printed(t, still))
		if t.Failed() {
			t.FailNow()
		}
	}
	for n := 1; n <= 9; n++ {
		wantEnough(t, seen, 5, fmt.Sprint("event ", n))
	}
	wantEnough(t, seen, 8, "gone")
	wantEnough(t, seen, 20, "at m", "held", "lost", "joined", "message", "report 1", "report 2", "report 3")
	wantEnough(t, seen, 5, "code 0", "code 1", "code 6", "code 7", "code 12", "code 14", "code 15", "code 16", "code 17")
}

// TestGoesOn: P3 of the whole, P27.3, P27.4: whatever befell it, each line that a partition tells is one that it tells alone, and it ends as it ends alone in as many frames.
func TestGoesOn(t *testing.T) {
	t.Parallel()
	r := rand.New(rand.NewSource(272))
	seen := map[string]int{}
	for range 200 {
		s := someScript(t, r, 80)
		source := printed(t, s)
		told := strings.Split(run.Run(source), "\n")
		for n := range s.Config.Parts {
			if isJoined(s.Config, n) {
				continue
			}
			alone := run.Alone(source, n, 200)
			for _, line := range told {
				var m, p, frame int
				if count, _ := fmt.Sscanf(line, "  m%d p%d f%d", &m, &p, &frame); count == 3 && p == n {
					seen["a line"]++
					if !strings.Contains(alone, strings.Replace(line, fmt.Sprintf("  m%d", m), " ", 1)+"\n") {
						t.Errorf("P3: %q isn't told alone", line)
					}
				}
				if end, is := strings.CutPrefix(line, fmt.Sprintf("p%d ", n)); is {
					if at := strings.Index(end, "frame "); at >= 0 {
						fmt.Sscanf(end[at:], "frame %d", &frame)
						lines := strings.Split(run.Alone(source, n, frame), "\n")
						wantText(t, "P3: how it ends", fmt.Sprintf("p%d %s", n, end[at:]), lines[len(lines)-2])
						seen["an end"]++
					}
				}
			}
		}
		if t.Failed() {
			t.FailNow()
		}
	}
	wantEnough(t, seen, 200, "a line", "an end")
}

// TestNobodyNotices: P7 of the whole, P27.5: what isn't moved tells in the script what it tells in the one without migrations and letters, and ends so.
func TestNobodyNotices(t *testing.T) {
	t.Parallel()
	r := rand.New(rand.NewSource(273))
	seen := map[string]int{}
	for range 150 {
		s := someScript(t, r, 60)
		source := printed(t, s)
		moved := make([]bool, len(s.Config.Parts))
		for _, o := range s.Ops {
			if o.Kind == api.OpMove && o.A >= 0 && o.A < len(moved) {
				moved[o.A] = true
			}
		}
		told, still := run.Run(source), run.Run(run.Still(source))
		for n, is := range moved {
			if !is {
				wantText(t, "P7", of(told, n), of(still, n))
				seen["not moved"]++
			}
		}
		if t.Failed() {
			t.FailNow()
		}
	}
	wantEnough(t, seen, 50, "not moved")
}

// of: what an answer of Run tells of the partition.
func of(told string, n int) string {
	var l []string
	for _, line := range strings.Split(told, "\n") {
		if strings.Contains(line+" ", fmt.Sprintf(" p%d ", n)) || strings.HasPrefix(line, fmt.Sprintf("p%d ", n)) {
			l = append(l, line)
		}
	}
	return lines(l...)
}

// TestSameAgain: R4: the same calls answer the same.
func TestSameAgain(t *testing.T) {
	r := rand.New(rand.NewSource(274))
	for range 20 {
		source := printed(t, someScript(t, r, 40))
		first := []string{run.Run(source), run.Alone(source, 0, 9), run.Still(source), run.Judge(source)}
		second := []string{run.Run(source), run.Alone(source, 0, 9), run.Still(source), run.Judge(source)}
		for i := range first {
			wantText(t, "R4", second[i], first[i])
		}
	}
}
