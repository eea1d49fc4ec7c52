// Package safe is layer 1: checked arithmetic on 64-bit integers.
package safe

import (
	"math"
	"math/bits"

	"noonmark/api"
)

// Add returns a + b, or ErrOver if an int64 doesn't hold it.
func Add(a, b int64) (int64, api.Errno) {
	s := a + b
	if (a < 0) == (b < 0) && (s < 0) != (a < 0) {
		return 0, api.ErrOver
	}
	return s, api.OK
}

// Sub returns a - b, or ErrOver if an int64 doesn't hold it.
func Sub(a, b int64) (int64, api.Errno) {
	d := a - b
	if (a < 0) != (b < 0) && (d < 0) != (a < 0) {
		return 0, api.ErrOver
	}
	return d, api.OK
}

// Mul returns a * b, or ErrOver if an int64 doesn't hold it.
func Mul(a, b int64) (int64, api.Errno) {
	hi, lo := bits.Mul64(size(a), size(b))
	if hi != 0 {
		return 0, api.ErrOver
	}
	return signed(lo, (a < 0) != (b < 0))
}

// Sum returns the sum of all, or ErrOver if an int64 doesn't hold it.
func Sum(list ...int64) (int64, api.Errno) {
	// Two words, since a partial sum may leave the range and come back.
	var hi, lo uint64
	for _, v := range list {
		var carry uint64
		lo, carry = bits.Add64(lo, uint64(v), 0)
		hi, _ = bits.Add64(hi, uint64(v>>63), carry)
	}
	if hi != uint64(int64(lo)>>63) {
		return 0, api.ErrOver
	}
	return int64(lo), api.OK
}

// Ratio returns a * b / c, rounded up or down.
func Ratio(a, b, c int64, up bool) (int64, api.Errno) {
	if c < 1 {
		return 0, api.ErrRange
	}
	hi, lo := bits.Mul64(size(a), size(b))
	if hi >= uint64(c) {
		return 0, api.ErrOver
	}
	q, rest := bits.Div64(hi, lo, uint64(c))
	negative := (a < 0) != (b < 0)
	if rest == 0 || up == negative {
		return signed(q, negative)
	}
	if q == math.MaxUint64 {
		return 0, api.ErrOver
	}
	return signed(q+1, negative)
}

// Clamp returns x, moved up to least and then down to most.
func Clamp(x, least, most int64) int64 {
	return min(max(x, least), most)
}

// size returns the distance of v from 0.
func size(v int64) uint64 {
	if v < 0 {
		return -uint64(v)
	}
	return uint64(v)
}

// signed returns the integer of a size and a sign, if an int64 holds it.
func signed(size uint64, negative bool) (int64, api.Errno) {
	if negative {
		if size > 1<<63 {
			return 0, api.ErrOver
		}
		return int64(-size), api.OK
	}
	if size > math.MaxInt64 {
		return 0, api.ErrOver
	}
	return int64(size), api.OK
}
