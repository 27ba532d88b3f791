package num

import (
	"math"

	"aqueduct/api"
)

// operation is the one form of all that is done with two numbers: ErrRange, where the result does not go into 64 bits.
type operation func(a, b int64) (int64, api.Errno)

// sum wraps round just where a and b have one sign and n the other.
func sum(a, b int64) (int64, api.Errno) {
	n := a + b
	return watched(n, (a^n)&(b^n) >= 0)
}

// difference wraps round just where a and b have unlike signs and n has that of b.
func difference(a, b int64) (int64, api.Errno) {
	n := a - b
	return watched(n, (a^b)&(a^n) >= 0)
}

// product is asked by dividing it again, but for the one division that wraps round itself.
func product(a, b int64) (int64, api.Errno) {
	n := a * b
	return watched(n, a == 0 || n/a == b && !turnsLeast(b, a))
}

func quotient(a, b int64) (int64, api.Errno) {
	if b == 0 {
		return 0, api.ErrZero
	}
	return watched(a/b, !turnsLeast(a, b))
}

// rest is nought also where the quotient would not go into 64 bits.
func rest(a, b int64) (int64, api.Errno) {
	if b == 0 {
		return 0, api.ErrZero
	}
	return a % b, api.OK
}

func size(a, _ int64) (int64, api.Errno) {
	if a < 0 {
		return difference(0, a)
	}
	return a, api.OK
}

// turnsLeast tells whether a by b is the one quotient that does not go into 64 bits.
func turnsLeast(a, b int64) bool { return a == math.MinInt64 && b == -1 }

func watched(n int64, fits bool) (int64, api.Errno) {
	if !fits {
		return 0, api.ErrRange
	}
	return n, api.OK
}
