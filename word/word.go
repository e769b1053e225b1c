// Package word is layer 1: numbers of 64 bits that do not go round: see shared/doc/01-word.md.
package word

import (
	"math/bits"

	"linhay/api"
)

// most and high are the greatest numbers of both kinds.
const (
	most = 1<<64 - 1
	high = 1<<63 - 1
)

// held is n, or the edge, where n would lie past it.
func held[T int | uint64](n T, past bool, edge T) T {
	if past {
		return edge
	}
	return n
}

// Add is the sum, held.
func Add(a, b uint64) uint64 {
	n, past := bits.Add64(a, b, 0)
	return held(n, past != 0, most)
}

// Sub is the difference, 0 where that is below 0.
func Sub(a, b uint64) uint64 {
	return held(a-b, a < b, 0)
}

// Mul is the product, held.
func Mul(a, b uint64) uint64 {
	past, n := bits.Mul64(a, b)
	return held(n, past != 0, most)
}

// Plus is the sum, or ErrBig.
func Plus(a, b uint64) (uint64, api.Errno) {
	n, past := bits.Add64(a, b, 0)
	if past != 0 {
		return 0, api.ErrBig
	}
	return n, api.OK
}

// Times is the product, or ErrBig.
func Times(a, b uint64) (uint64, api.Errno) {
	past, n := bits.Mul64(a, b)
	if past != 0 {
		return 0, api.ErrBig
	}
	return n, api.OK
}

// Shl is a times 2^n, held.
func Shl(a uint64, n uint) uint64 {
	// Bits that are lost on the way up do not come back on the way down.
	return held(a<<n, a<<n>>n != a, most)
}

// Shr is a divided by 2^n, from below.
func Shr(a uint64, n uint) uint64 {
	return a >> n
}

// Of is n, 0 where n is below 0.
func Of(n int) uint64 {
	return held(uint64(n), n < 0, 0)
}

// Int is a, held at the greatest int.
func Int(a uint64) int {
	return held(int(a), a > high, high)
}
