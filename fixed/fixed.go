// Package fixed is layer 1: whole numbers, checked: see shared/doc/01-fixed.md.
package fixed

import (
	"math"
	"math/bits"

	"glazier/api"
)

// The greatest n that Div255 divides: 255 times 255.
const most255 = 255 * 255

// Add, Sub, Mul, Floor and MulDiv reckon, and tell what does not fit.
func Add(a, b int) (int, api.Errno) {
	sum := a + b
	// A sum wraps round just if both are of one sign, and it is of the other.
	if (a < 0) == (b < 0) && (sum < 0) != (a < 0) {
		return 0, api.ErrOver
	}
	return sum, api.OK
}

func Sub(a, b int) (int, api.Errno) {
	less := a - b
	// Between two of one sign nothing can wrap round.
	if (a < 0) != (b < 0) && (less < 0) != (a < 0) {
		return 0, api.ErrOver
	}
	return less, api.OK
}

func Mul(a, b int) (int, api.Errno) {
	high, low := bits.Mul64(size(a), size(b))
	if high != 0 {
		return 0, api.ErrOver
	}
	return signed(low, (a < 0) != (b < 0))
}

func Floor(a, b int) (int, api.Errno) {
	if b == 0 {
		return 0, api.ErrZero
	}
	if a == math.MinInt && b == -1 {
		return 0, api.ErrOver
	}
	quotient := a / b
	// Go rounds towards 0, which is above what is asked if the quotient is below 0.
	if a%b != 0 && (a < 0) != (b < 0) {
		quotient--
	}
	return quotient, api.OK
}

func MulDiv(a, b, c int) (int, api.Errno) {
	if c == 0 {
		return 0, api.ErrZero
	}
	high, low := bits.Mul64(size(a), size(b))
	divisor := size(c)
	// bits.Div64 panics where the quotient has more than 64 bits.
	if high >= divisor {
		return 0, api.ErrOver
	}
	quotient, rest := bits.Div64(high, low, divisor)
	negative := ((a < 0) != (b < 0)) != (c < 0)
	if negative && rest != 0 {
		// Rounded down it is farther from 0; one more must not wrap round.
		if quotient == math.MaxUint64 {
			return 0, api.ErrOver
		}
		quotient++
	}
	return signed(quotient, negative)
}

// Div255 divides, rounded; Sat holds within a byte.
func Div255(n int) int {
	if n < 0 {
		return 0
	}
	if n > most255 {
		return 255
	}
	return (n + 127) / 255
}

func Sat(n int) uint8 {
	return uint8(min(max(n, 0), 255))
}

// size is n without its sign: of -2^63 too, which no int could hold.
func size(n int) uint64 {
	if n < 0 {
		return -uint64(n)
	}
	return uint64(n)
}

// signed is the number of that size and sign, if it fits.
func signed(size uint64, negative bool) (int, api.Errno) {
	if negative {
		if size > 1<<63 {
			return 0, api.ErrOver
		}
		return int(-size), api.OK
	}
	if size > math.MaxInt {
		return 0, api.ErrOver
	}
	return int(size), api.OK
}
