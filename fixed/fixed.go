// Package fixed is layer 1: fixed-point arithmetic with directed rounding.
// See shared/doc/01-fixed.md.
package fixed

import "armillary/api"

// ratioLimit is the largest magnitude of the factor and the divisor that MulRatio takes.
const ratioLimit = 1 << 30

// Valid reports whether x is a number.
func Valid(x int64) bool { return -api.Max < x && x < api.Max }

// Mul returns the product of two numbers, rounded down and up.
func Mul(a int64, b int64) (int64, int64) { return bounds(a*b, api.One) }

// Div returns the quotient of two numbers, rounded down and up.
func Div(a int64, b int64) (int64, int64, api.Errno) {
	if b == 0 {
		return 0, 0, api.ErrZero
	}
	lo, hi := bounds(a*api.One, b)
	return lo, hi, api.OK
}

// Sqrt returns the square root of a number, rounded down and up.
func Sqrt(a int64) (int64, int64, api.Errno) {
	if a < 0 {
		return 0, 0, api.ErrDomain
	}
	square := uint64(a) * api.One
	root := floorRoot(square)
	if root*root == square {
		return int64(root), int64(root), api.OK
	}
	return int64(root), int64(root + 1), api.OK
}

// MulRatio returns a number times n / d, rounded down and up.
func MulRatio(a int64, n int64, d int64) (int64, int64, api.Errno) {
	if n < -ratioLimit || n > ratioLimit || d < 1 || d > ratioLimit {
		return 0, 0, api.ErrArg
	}
	lo, hi := bounds(a*n, d)
	return lo, hi, api.OK
}
