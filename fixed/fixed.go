// Package fixed: numbers that stop at their bounds: see ../shared/doc/01-fixed.md.
package fixed

import (
	"math"
	"math/bits"
)

// Add is a and b together, within an int64's bounds.
func Add(a, b int64) int64 {
	sum := a + b
	switch {
	case a > 0 && b > 0 && sum < 0:
		return math.MaxInt64
	case a < 0 && b < 0 && sum >= 0:
		return math.MinInt64
	}
	return sum
}

// Sub is a less b, within an int64's bounds.
func Sub(a, b int64) int64 {
	rest := a - b
	switch {
	case a >= 0 && b < 0 && rest < 0:
		return math.MaxInt64
	case a < 0 && b > 0 && rest >= 0:
		return math.MinInt64
	}
	return rest
}

// Mul is a times b, within an int64's bounds.
func Mul(a, b int64) int64 {
	high, low := bits.Mul64(size(a), size(b))
	if (a < 0) != (b < 0) {
		if high != 0 || low > 1<<63 {
			return math.MinInt64
		}
		return -int64(low)
	}
	if high != 0 || low > math.MaxInt64 {
		return math.MaxInt64
	}
	return int64(low)
}

// size is how far a is from 0; as a uint64 it has room for the least int64's too.
func size(a int64) uint64 {
	if a < 0 {
		return -uint64(a)
	}
	return uint64(a)
}

// Abs is how far a is from 0, within an int64's bounds.
func Abs(a int64) int64 {
	switch {
	case a == math.MinInt64:
		return math.MaxInt64
	case a < 0:
		return -a
	}
	return a
}

// Down is a over b, rounded down; 0 where b is below 1.
func Down(a, b int64) int64 {
	if b < 1 {
		return 0
	}
	q := a / b
	if a%b < 0 { // Go's quotient is cut toward 0
		q--
	}
	return q
}

// Up is a over b, rounded up; 0 where b is below 1.
func Up(a, b int64) int64 {
	if b < 1 {
		return 0
	}
	q := a / b
	if a%b > 0 {
		q++
	}
	return q
}

// Clamp is x, but not above hi, then not below lo: where the two cross, lo holds.
func Clamp(x, lo, hi int64) int64 {
	return max(min(x, hi), lo)
}
