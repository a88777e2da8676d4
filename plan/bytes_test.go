package plan_test

import (
	"bytes"
	"encoding/binary"
	"hash/crc32"
	"math/rand"
	"slices"
	"testing"

	"ferry/api"
	"ferry/crc"
	"ferry/plan"
)

// exampleBytes: the chapter's bytes of its plan, ahead of the sum.
func exampleBytes() []byte {
	return []byte{
		0x46, 0x50, 0x4C, 0x4E, 0x00, 0x01, 0x00, 0x00, 0x00, 0x45, 0x00, 0x00, 0x00, 0x03, 0x01,
		0x01, 0x00, 0x03, 0x05, 0x61, 0x62, 0x01, 0x00, 0x01, 0x03,
		0x02, 0x00, 0x06, 0x00, 0x00, 0x00, 0x00, 0x07, 0x01, 0x02, 0x00, 0x06, 0x00, 0x00, 0x00, 0x40, 0x09, 0x00,
		0x03, 0x00, 0x04, 0x01, 0x04, 0x01, 0x02, 0x03, 0x00, 0x04, 0x04, 0x08, 0x02, 0x00,
		0x04, 0x00, 0x01, 0x01, 0x05, 0x00, 0x01, 0x02,
	}
}

// sealed: the bytes and their sum, by the library.
func sealed(b []byte) []byte {
	return binary.LittleEndian.AppendUint32(slices.Clone(b), crc32.ChecksumIEEE(b))
}

// bytesOf: a plan's bytes ahead of the sum, written from behind to the front, so that the length is known when it is written.
func bytesOf(p api.Plan) []byte {
	var b []byte
	front := func(more ...byte) { b = append(more, b...) }
	for _, count := range slices.Backward(p.Sems) {
		front(byte(count))
	}
	front(5, 0, byte(len(p.Sems)))
	front(4, 0, 1, byte(p.Events))
	for _, q := range slices.Backward(p.Ports) {
		front(3, 0, 4, byte(q.Kind), byte(q.Size), byte(q.Depth), byte(q.Refresh))
	}
	for _, q := range slices.Backward(p.Procs) {
		front(2, 0, 6, 0, 0, byte(q.Entry/256), byte(q.Entry%256), byte(q.Prio), flag(q.Auto))
	}
	for _, q := range slices.Backward(p.Pages) {
		front([]byte(q.Init)...)
		front(1, 0, byte(1+len(q.Init)), byte(q.Rights))
	}
	front(flag(p.Mobile))
	b = append(binary.BigEndian.AppendUint32(nil, uint32(p.Id)), b...)
	b = append(binary.BigEndian.AppendUint32(nil, uint32(len(b)+14)), b...)
	front([]byte("FPLN\x00\x01")...)
	return b
}

func flag(is bool) byte {
	if is {
		return 1
	}
	return 0
}

func TestBytes(t *testing.T) {
	b, err := plan.Bytes(example())
	wantBare(t, "P10.4: Bytes", err, nil)
	if !bytes.Equal(b, sealed(exampleBytes())) {
		t.Errorf("P10.4: Bytes = % x, want % x", b, sealed(exampleBytes()))
	}
	sum, err := plan.Sum(example())
	wantBare(t, "P10.4: Sum", err, nil)
	if sum != crc32.ChecksumIEEE(exampleBytes()) {
		t.Errorf("P10.4: Sum = %#x", sum)
	}
}

// TestThereAndBack: Bytes, Sum and Read of any plan in form; memory.
func TestThereAndBack(t *testing.T) {
	r := rand.New(rand.NewSource(103))
	for n := range 3000 {
		p := inForm(r)
		if n == 0 {
			p = longest()
		}
		look := kept(t, p)
		b, err := plan.Bytes(p)
		wantBare(t, "P10.4: Bytes", err, nil)
		sum, err := plan.Sum(p)
		wantBare(t, "P10.4: Sum", err, nil)
		if !bytes.Equal(b, sealed(bytesOf(p))) || sum != crc32.ChecksumIEEE(bytesOf(p)) {
			t.Fatalf("P10.4: Bytes(%v) = % x, Sum %#x", p, b, sum)
		}
		from := withRoom(b, 0x77)
		was := slices.Clone(whole(from))
		first, err := plan.Read(from)
		wantBare(t, "P10.4: Read", err, nil)
		second, _ := plan.Read(from)
		if !plan.Same(first, p) {
			t.Fatalf("P10.4: Read(Bytes(%v)) = %v", p, first)
		}
		spoilPlan(first)
		fill(b, 0x55)
		look("Bytes, Sum and Read")
		if !plan.Same(second, p) || !bytes.Equal(whole(from), was) {
			t.Errorf("R2: Read shares memory with its bytes or another answer")
		}
	}
}

// refused looks whether Read answers just that error and no plan.
func refused(t *testing.T, what string, b []byte, want error) {
	t.Helper()
	p, err := plan.Read(b)
	wantBare(t, "P10.4: Read of "+what, err, want)
	if !plan.Same(p, api.Plan{}) {
		t.Errorf("F1: Read of %s: %v beside an error", what, p)
	}
}

// turned: the example's bytes with one of them put otherwise, sealed anew.
func turned(at int, c byte) []byte {
	b := exampleBytes()
	b[at] = c
	return sealed(b)
}

// resized: the example's bytes with some cut out at a place and others put there, their length told rightly, sealed anew.
func resized(at, cut int, more ...byte) []byte {
	b := slices.Replace(exampleBytes(), at, at+cut, more...)
	b[9] = byte(len(b) + 4)
	return sealed(b)
}

func TestReadErrors(t *testing.T) {
	good := sealed(exampleBytes())
	refused(t, "no bytes", nil, api.ErrShort)
	refused(t, "three bytes", []byte{0, 0, 0}, api.ErrShort)
	refused(t, "a sum alone", []byte{0, 0, 0, 0}, api.ErrShort)
	refused(t, "fourteen bytes of another kind", sealed(make([]byte, 14)), api.ErrShort)
	refused(t, "fifteen bytes of another kind", sealed(make([]byte, 15)), api.ErrKind)
	refused(t, "fourteen bytes", sealed([]byte("FPLN\x00\x01\x00\x00\x00\x12\x00\x00\x00\x00")), api.ErrShort)
	refused(t, "a head alone", sealed([]byte("FPLN\x00\x01\x00\x00\x00\x13\x00\x00\x00\x00\x00")), api.ErrPlan)
	last := slices.Clone(good)
	last[len(last)-1] ^= 1
	refused(t, "another sum", last, api.ErrSum)
	refused(t, "a byte more", append(slices.Clone(good), 0), api.ErrSum)
	refused(t, "a byte more, sealed", sealed(append(exampleBytes(), 0)), api.ErrLength)
	refused(t, "a sum more", sealed(good), api.ErrLength)
	for at := range 6 {
		refused(t, "another kind", turned(at, exampleBytes()[at]^1), api.ErrKind)
	}
	for at := 6; at < 10; at++ {
		refused(t, "another length", turned(at, exampleBytes()[at]^1), api.ErrLength)
	}
	refused(t, "another kind and length", sealed(append([]byte("FPLN\x00\x02"), exampleBytes()[7:]...)), api.ErrKind)
}

// TestReadNoPlan: bytes whose head is right and that no plan in form has.
func TestReadNoPlan(t *testing.T) {
	for what, b := range map[string][]byte{
		"a negative Id":                       turned(10, 0x80),
		"a wrong flag of Mobile":              turned(14, 2),
		"wrong rights":                        turned(18, 8),
		"a wrong flag of Auto":                turned(33, 2),
		"an Entry behind the pages":           turned(40, 0x80),
		"an Entry within a word":              turned(40, 0x41),
		"a greater Entry":                     turned(37, 1),
		"a wrong kind of port":                turned(46, 5),
		"too many events":                     turned(60, 9),
		"no page's record":                    resized(15, 10),
		"no process's record":                 resized(25, 18),
		"no events' record":                   resized(57, 4),
		"no semaphores' record":               resized(61, 4),
		"a page's record with no byte":        resized(15, 6, 1, 0, 0),
		"a page of 65 bytes":                  resized(16, 5, append([]byte{0, 66, 5}, make([]byte, 65)...)...),
		"a process's record with a byte less": resized(25, 9, 2, 0, 5, 0, 0, 0, 0, 7),
		"a process's record with a byte more": resized(25, 9, 2, 0, 7, 0, 0, 0, 0, 7, 1, 0),
		"a port's record with a byte less":    resized(43, 7, 3, 0, 3, 1, 4, 1),
		"a port's record with a byte more":    resized(43, 7, 3, 0, 5, 1, 4, 1, 2, 0),
		"an events' record with no byte":      resized(57, 4, 4, 0, 0),
		"an events' record with a byte more":  resized(57, 4, 4, 0, 2, 1, 0),
		"two events' records":                 resized(57, 0, 4, 0, 1, 1),
		"nine semaphores":                     resized(61, 4, 5, 0, 9, 1, 2, 3, 4, 5, 6, 7, 8, 9),
		"two semaphores' records":             resized(61, 0, 5, 0, 1, 2),
		"a byte behind the records":           resized(65, 0, 0),
		"a record of another tag behind":      resized(65, 0, 6, 0, 0),
		"a page behind the processes":         resized(43, 0, 1, 0, 1, 3),
		"a record of the tag 0":               resized(15, 0, 0, 0, 0),
		"a record whose length goes beyond":   turned(63, 9),
		"nine processes":                      resized(43, 0, bytes.Repeat([]byte{2, 0, 6, 0, 0, 0, 0, 7, 1}, 7)...),
	} {
		refused(t, what, b, api.ErrPlan)
	}
	if p, err := plan.Read(resized(61, 4, 5, 0, 0)); err != nil || len(p.Sems) != 0 {
		t.Errorf("P10.4: Read of no semaphores: %v, %v", p, err)
	}
	long := bytes.Repeat([]byte{1, 0, 1, 7}, 40000)
	head := binary.BigEndian.AppendUint32([]byte("FPLN\x00\x01"), uint32(len(long)+19))
	refused(t, "40000 pages", sealed(slices.Concat(head, make([]byte, 5), long)), api.ErrPlan)
	p := great(8)
	refused(t, "a plan beyond its bound", sealed(bytesOf(p)), api.ErrPlan)
}

// TestReadOneByte: whichever byte behind the head is put otherwise, what is taken is the bytes of the plan that is answered.
func TestReadOneByte(t *testing.T) {
	taken := 0
	for at := 10; at < 65; at++ {
		for c := range 256 {
			b := turned(at, byte(c))
			p, err := plan.Read(b)
			if err != nil {
				wantBare(t, "P10.4: Read", err, api.ErrPlan)
				continue
			}
			taken++
			if len(verdicts(p)) > 0 || !bytes.Equal(sealed(bytesOf(p)), b) {
				t.Errorf("P10.4: Read(% x) = %v", b, p)
			}
		}
	}
	// Counted by hand. Id, Mobile; the pages' Rights and Init; the processes' Entry (its upper three bytes stay 0), Prio, Auto; the first port, the second one (which may be a QueueIn as well); Events; the semaphore; the records' heads, each byte of which stays, but that the first process's record may be taken for a page's, or lie in the second page's.
	wanted := 128 + 3*256 + 2 + 2*8 + 2*256 + 2*(3+32+256+2) + (1 + 32 + 1 + 256) + (2 + 32 + 8 + 1) + 9 + 256 + 8*3 + 2
	if taken != wanted {
		t.Errorf("P10.4: %d are taken, want %d", taken, wanted)
	}
}

// TestBursts: one burst, wherever it lies, and every strict beginning.
func TestBursts(t *testing.T) {
	r := rand.New(rand.NewSource(104))
	for range 20 {
		p := inForm(r)
		b, err := plan.Bytes(p)
		wantBare(t, "P10.4: Bytes", err, nil)
		for at := range 8 * len(b) {
			mask := r.Uint32()>>r.Intn(32) | 1
			turned, err := crc.Turn(b, at, mask)
			if err != nil {
				turned, err = crc.Turn(b, at, 1)
			}
			wantBare(t, "crc.Turn", err, nil)
			if got, err := plan.Read(turned); err == nil || api.Place(err) != -1 || !plan.Same(got, api.Plan{}) {
				t.Errorf("P10.4: a burst %#x at %d is taken", mask, at)
			}
		}
		for n := range b {
			if got, err := plan.Read(b[:n]); err == nil || api.Place(err) != -1 || !plan.Same(got, api.Plan{}) {
				t.Errorf("P10.4: a beginning of %d bytes is taken", n)
			}
		}
	}
}

// TestReadAnyBytes: sealed bytes of all sorts; nothing is taken that isn't a plan's bytes.
func TestReadAnyBytes(t *testing.T) {
	r := rand.New(rand.NewSource(105))
	for range 40000 {
		b := bytesOf(inForm(r))
		for range 1 + r.Intn(3) {
			at := 10 + r.Intn(len(b)-10)
			switch r.Intn(4) {
			case 0:
				b[at] = byte(r.Intn(256))
			case 1:
				b = slices.Insert(b, at, byte(r.Intn(6)))
			case 2:
				b = append(b[:at:at], b[min(at+1+r.Intn(9), len(b)):]...)
			case 3:
				b[at] = byte(r.Intn(10))
			}
		}
		for len(b) < 15 {
			b = append(b, 0)
		}
		binary.BigEndian.PutUint32(b[6:], uint32(len(b)+4))
		b = sealed(b)
		p, err := plan.Read(b)
		if err == nil && (len(verdicts(p)) > 0 || !bytes.Equal(sealed(bytesOf(p)), b)) {
			t.Fatalf("P10.4: Read(% x) = %v", b, p)
		}
		if err != nil {
			wantBare(t, "P10.4: Read", err, api.ErrPlan)
		}
	}
}
