// Package crc is layer 1: check sums. See shared/doc/01-crc.md.
package crc

import (
	"math/bits"

	"ferry/api"
)

const (
	// feedback is the polynomial of IEEE 802.3, reflected: its power 0 is bit 31, its power 32 goes without saying.
	feedback = 0xEDB88320
	// allOnes is what the register begins with.
	allOnes = 0xFFFFFFFF
	// sumSize is the number of bytes of a sum.
	sumSize = 4
	// burstBits is the number of neighbouring bits that a burst may reach over.
	burstBits = 32
)

// Sum: the sum of the bytes.
func Sum(b []byte) uint32 { return More(0, b) }

// More: the sum of bytes of which sum is the sum of the first ones, and b the others.
func More(sum uint32, b []byte) uint32 { return ^moveOn(^sum, b) }

// Shift: the register moved on by n bytes 0.
func Shift(reg uint32, n int) (uint32, error) {
	if n < 0 {
		return 0, api.ErrArg
	}
	// A byte 0 multiplies the register by the power 8, and n of them by the power 8 n: squaring gets there in as many turns as n has digits.
	power := uint32(1) << (31 - 8)
	for ; n > 0; n >>= 1 {
		if n&1 == 1 {
			reg = times(reg, power)
		}
		power = times(power, power)
	}
	return reg, nil
}

// Join: the sum of two pieces, the second of n bytes, from their sums.
func Join(first, second uint32, n int) (uint32, error) {
	moved, err := Shift(first, n)
	if err != nil {
		return 0, err
	}
	return moved ^ second, nil
}

// Seal: the bytes with their sum behind them.
func Seal(b []byte) []byte {
	sealed := make([]byte, len(b)+sumSize)
	copy(sealed, b)
	putLow(sealed[len(b):], Sum(b))
	return sealed
}

// Open: the bytes ahead of a right sum.
func Open(b []byte) ([]byte, error) {
	size := len(b) - sumSize
	if size < 0 {
		return nil, api.ErrShort
	}
	if Sum(b[:size]) != getLow(b[size:]) {
		return nil, api.ErrSum
	}
	return fresh(b[:size]), nil
}

// Turn: the bytes with the bits of mask turned, from bit at on.
func Turn(b []byte, at int, mask uint32) ([]byte, error) {
	reach := bits.Len32(mask)
	// at is held against a difference, since a sum with it might wrap.
	if mask == 0 || at < 0 || at > 8*len(b)-reach {
		return nil, api.ErrArg
	}
	turned := fresh(b)
	for i := range reach {
		bit := at + i
		turned[bit/8] ^= byte(mask>>i&1) << (bit % 8)
	}
	return turned, nil
}

// Burst: by which burst b differs from a.
func Burst(a, b []byte) (int, uint32, error) {
	if len(a) != len(b) {
		return 0, 0, api.ErrLength
	}
	first, last := unlike(a, b)
	if first > last {
		return 0, 0, api.ErrNone
	}
	begin := 8*first + bits.TrailingZeros8(a[first]^b[first])
	end := 8*last + bits.Len8(a[last]^b[last])
	if end-begin > burstBits {
		return 0, 0, api.ErrRange
	}
	// 32 neighbouring bits may lie in five bytes, so they are gathered in 64.
	var gathered uint64
	for i := first; i <= last; i++ {
		gathered |= uint64(a[i]^b[i]) << (8 * (i - first))
	}
	return begin, uint32(gathered >> (begin % 8)), nil
}

// Patch: the bytes with other four bytes at a place, so that their sum is want.
func Patch(b []byte, at int, want uint32) ([]byte, error) {
	if at < 0 || at > len(b)-sumSize {
		return nil, api.ErrArg
	}
	behind := at + sumSize
	have := moveOn(allOnes, b[:at])
	// Four bytes are xored whole into the register ahead of being moved on by four bytes 0: so the way back over these tells what the xor must give.
	need := moveBack(^want, b[behind:])
	need = moveBack(need, make([]byte, sumSize))
	patched := fresh(b)
	putLow(patched[at:behind], have^need)
	return patched, nil
}

// moveBit moves the register on by one bit 0.
func moveBit(reg uint32) uint32 {
	if reg&1 == 1 {
		return reg>>1 ^ feedback
	}
	return reg >> 1
}

// moveBitBack undoes moveBit: the feedback's highest bit is 1, so the register's tells whether it was xored in.
func moveBitBack(reg uint32) uint32 {
	if reg>>31 == 1 {
		return (reg^feedback)<<1 | 1
	}
	return reg << 1
}

// table tells, for each lowest byte of a register, what eight bits make of it.
func table() [256]uint32 {
	var moved [256]uint32
	for low := range moved {
		reg := uint32(low)
		for range 8 {
			reg = moveBit(reg)
		}
		moved[low] = reg
	}
	return moved
}

// moveOn moves the register on by the bytes in their order.
func moveOn(reg uint32, b []byte) uint32 {
	moved := table()
	for _, c := range b {
		reg = moved[byte(reg)^c] ^ reg>>8
	}
	return reg
}

// moveBack undoes moveOn by the same bytes.
func moveBack(reg uint32, b []byte) uint32 {
	for i := len(b) - 1; i >= 0; i-- {
		for range 8 {
			reg = moveBitBack(reg)
		}
		reg ^= uint32(b[i])
	}
	return reg
}

// times multiplies two registers as polynomials modulo the sum's: bit 31 stands for the power 0, so that moving on by a bit multiplies by the power 1.
func times(a, b uint32) uint32 {
	var product uint32
	for ; b != 0; b <<= 1 {
		if b>>31 == 1 {
			product ^= a
		}
		a = moveBit(a)
	}
	return product
}

// unlike tells the first and the last byte at which two lists of one length differ; where they don't, the first is above the last.
func unlike(a, b []byte) (int, int) {
	first, last := 0, len(a)-1
	for first <= last && a[first] == b[first] {
		first++
	}
	for last > first && a[last] == b[last] {
		last--
	}
	return first, last
}

// fresh copies the bytes, so that an answer shares nothing with what was handed in.
func fresh(b []byte) []byte {
	c := make([]byte, len(b))
	copy(c, b)
	return c
}

// putLow lays a number into four bytes, the lowest first.
func putLow(b []byte, n uint32) {
	for i := range sumSize {
		b[i] = byte(n >> (8 * i))
	}
}

// getLow reads a number of four bytes, the lowest first.
func getLow(b []byte) uint32 {
	var n uint32
	for i := range sumSize {
		n |= uint32(b[i]) << (8 * i)
	}
	return n
}
