// Package word is layer 1: numbers, powers and bytes.
package word

import (
	"math/bits"

	"millstream/api"
)

const (
	greatest  = 1 << 62 // the greatest power that an int64 holds
	wordBytes = 8       // bytes of a uint64
	byteBits  = 8
)

// IsPower asks whether a number is a power.
func IsPower(n int64) bool {
	return n > 0 && n&(n-1) == 0
}

// Log2 is of which power of 2 a number is one.
func Log2(n int64) (int, bool) {
	if !IsPower(n) {
		return 0, false
	}
	return bits.TrailingZeros64(uint64(n)), true
}

// Align is the next multiple.
//
// It never answers ErrRange: the greatest number that may be aligned is a
// multiple of every power, so no multiple that is asked for lies above it.
func Align(n, to int64) (int64, api.Errno) {
	if !IsPower(to) || n < 0 || n > greatest {
		return 0, api.ErrArg
	}
	return (n + to - 1) &^ (to - 1), api.OK
}

// Mask is what is left of a number.
func Mask(n, to int64) int64 {
	if !IsPower(to) {
		return 0
	}
	// In two's complement the lowest bits are what is left below 0, too.
	return n & (to - 1)
}

// Bytes are the lowest bytes of a number.
func Bytes(v uint64, n int) []byte {
	if n < 0 || n > wordBytes {
		return nil
	}
	b := make([]byte, n)
	for i := range n {
		b[i] = byte(v >> (i * byteBits))
	}
	return b
}

// Number is the number of bytes.
func Number(b []byte) uint64 {
	var v uint64
	for i := range min(len(b), wordBytes) {
		v |= uint64(b[i]) << (i * byteBits)
	}
	return v
}

// Chunks are the parts of a copy.
func Chunks(n int) []int {
	if n < 1 || n > api.MaxBuffer {
		return nil
	}
	l := make([]int, 0, n/api.MaxChunk+1)
	for range n / api.MaxChunk {
		l = append(l, api.MaxChunk)
	}
	if rest := n % api.MaxChunk; rest > 0 {
		l = append(l, rest)
	}
	return l
}
