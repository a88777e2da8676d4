package job

import (
	"sync"

	"ferry/image"
	"ferry/wire"
)

const (
	// headSize is the number of an image's bytes ahead of its records.
	headSize = 20
	// recSize is the number of a record's bytes ahead of its body.
	recSize = 3
)

// cut: the units of an image with these records; one behind the other they are the image.
func cut(b []byte, recs []wire.Rec) [][]byte {
	var units [][]byte
	from, at := 0, headSize
	for _, r := range recs {
		if begins(r.Tag) {
			units = append(units, b[from:at])
			from = at
		}
		at += recSize + len(r.Body)
	}
	// Behind the last record the sum is left.
	return append(units, b[from:at], b[at:])
}

// begins: does a record with that tag begin a unit? The counters and the base belong to the head; the lists are one unit, which Ready begins.
func begins(tag int) bool {
	switch tag {
	case image.TagFrame, image.TagBase, image.TagTimers, image.TagEvents, image.TagSems:
		return false
	}
	return true
}

// take: the bytes of the first n units, of which there are as many at least. A maker makes them, and has ended when this answers.
func take(todo [][]byte, n int) []byte {
	units, done := make(chan []byte), make(chan struct{})
	var maker sync.WaitGroup
	maker.Add(1)
	go func() {
		defer maker.Done()
		produce(todo, units, done)
	}()
	var made []byte
	for range n {
		made = append(made, <-units...)
	}
	// Nobody takes a unit any more: the maker has only done to choose.
	close(done)
	maker.Wait()
	return made
}

// produce sends the units in their order, till none is left or no more are wanted.
func produce(todo [][]byte, units chan<- []byte, done <-chan struct{}) {
	for _, unit := range todo {
		select {
		case units <- unit:
		case <-done:
			return
		}
	}
}
