package run

import (
	"strings"
	"sync"
)

const (
	mostWorkers = 16
	// stopped is the answer to a text that isn't run any more.
	stopped = "stopped\n"
)

// result is what Run answers of the text of that number.
type result struct {
	number int
	answer string
}

// Batch: Run of each text, by so many workers, until so many lines were told in all.
func Batch(texts []string, workers, lines int) []string {
	numbers, results, done := make(chan int), make(chan result), make(chan struct{})
	var all sync.WaitGroup
	start := func(deed func()) {
		all.Add(1)
		go func() {
			defer all.Done()
			deed()
		}()
	}
	start(func() { feed(len(texts), numbers, done) })
	for range min(max(workers, 1), mostWorkers) {
		start(func() { work(texts, numbers, results, done) })
	}
	answers := gather(len(texts), lines, results)
	// What is still under way is of no text that is told.
	close(done)
	all.Wait()
	return answers
}

// feed sends the texts' numbers, till none is left or no more are wanted.
func feed(texts int, numbers chan<- int, done <-chan struct{}) {
	defer close(numbers)
	for n := range texts {
		select {
		case numbers <- n:
		case <-done:
			return
		}
	}
}

// work runs the texts whose numbers come, one after the other.
func work(texts []string, numbers <-chan int, results chan<- result, done <-chan struct{}) {
	for n := range numbers {
		r := result{n, play(texts[n], done)}
		select {
		case results <- r:
		case <-done:
			return
		}
	}
}

// gather: the answers, in whatever order they come, up to the text behind which enough lines were told.
func gather(texts, lines int, results <-chan result) []string {
	answers, come := make([]string, texts), make([]bool, texts)
	next, told := 0, 0
	for next < texts && told < lines {
		r := <-results
		answers[r.number], come[r.number] = r.answer, true
		for next < texts && told < lines && come[next] {
			told += strings.Count(answers[next], "\n")
			next++
		}
	}
	for n := next; n < texts; n++ {
		answers[n] = stopped
	}
	return answers
}

// isClosed: nothing is ever sent on it. (One that is nil is never closed.)
func isClosed(done <-chan struct{}) bool {
	select {
	case <-done:
		return true
	default:
		return false
	}
}
