package interval

import (
	"armillary/api"
	"armillary/fixed"
)

// Add returns the sum of two intervals.
func Add(a api.Interval, b api.Interval) api.Interval {
	if IsEntire(a) || IsEntire(b) {
		return Entire()
	}
	return New(a.Lo+b.Lo, a.Hi+b.Hi)
}

// Sub returns the difference of two intervals.
func Sub(a api.Interval, b api.Interval) api.Interval { return Add(a, Neg(b)) }

// Neg returns an interval with its sign changed.
func Neg(a api.Interval) api.Interval { return api.Interval{Lo: -a.Hi, Hi: -a.Lo} }

// Mul returns the product of two intervals, rounded outward.
func Mul(a api.Interval, b api.Interval) api.Interval {
	if IsEntire(a) || IsEntire(b) {
		return Entire()
	}
	least, greatest := corners(Sign(a), Sign(b))
	lo, _ := fixed.Mul(least(a, b))
	_, hi := fixed.Mul(greatest(a, b))
	return New(lo, hi)
}

// Square returns the squares of the elements of an interval, rounded outward.
func Square(a api.Interval) api.Interval {
	if IsEntire(a) {
		return Entire()
	}
	near, far := magnitudes(a)
	lo, _ := fixed.Mul(near, near)
	_, hi := fixed.Mul(far, far)
	return New(lo, hi)
}

// Div returns the quotient of two intervals, rounded outward, or the entire
// interval if the divisor contains 0.
func Div(a api.Interval, b api.Interval) api.Interval {
	if IsEntire(a) || Contains(b, 0) {
		return Entire()
	}
	// The greater of two divisors of one sign has the smaller inverse: the ends
	// of the inverse of b are the inverses of its ends in the opposite order.
	inverse := api.Interval{Lo: b.Hi, Hi: b.Lo}
	least, greatest := corners(Sign(a), Sign(b))
	lo, _, _ := fixed.Div(least(a, inverse))
	_, hi, _ := fixed.Div(greatest(a, inverse))
	return New(lo, hi)
}

// MulRatio returns an interval times n / d, rounded outward.
func MulRatio(a api.Interval, n int64, d int64) api.Interval {
	if IsEntire(a) {
		return Entire()
	}
	lo, _, err := fixed.MulRatio(choose(n < 0, a.Hi, a.Lo), n, d)
	_, hi, _ := fixed.MulRatio(choose(n < 0, a.Lo, a.Hi), n, d)
	if err != api.OK {
		// Not required, but any other interval would not contain the result.
		return Entire()
	}
	return New(lo, hi)
}

// Sqrt returns the square roots of the elements of an interval that are not
// negative, rounded outward, and false if all are negative.
func Sqrt(a api.Interval) (api.Interval, bool) {
	if IsEntire(a) {
		return Entire(), true
	}
	if a.Hi < 0 {
		return api.Interval{}, false
	}
	lo, _, _ := fixed.Sqrt(max(a.Lo, 0))
	_, hi, _ := fixed.Sqrt(a.Hi)
	return New(lo, hi), true
}

// magnitudes returns the smallest and the largest magnitude in an interval.
func magnitudes(a api.Interval) (int64, int64) {
	return max(a.Lo, -a.Hi, 0), Mag(a)
}

// corner selects an end of each of two intervals.
type corner func(a, b api.Interval) (int64, int64)

// corners returns, for two intervals with the given signs, the corners with the
// least and with the greatest product.
func corners(a, b int) (corner, corner) {
	least := [3][3]corner{
		{highHigh, lowHigh, lowHigh},
		{highLow, smallerMixed, lowHigh},
		{highLow, highLow, lowLow},
	}
	greatest := [3][3]corner{
		{lowLow, lowLow, highLow},
		{lowLow, largerUniform, highHigh},
		{lowHigh, highHigh, highHigh},
	}
	return least[a+1][b+1], greatest[a+1][b+1]
}

func lowLow(a, b api.Interval) (int64, int64)   { return a.Lo, b.Lo }
func lowHigh(a, b api.Interval) (int64, int64)  { return a.Lo, b.Hi }
func highLow(a, b api.Interval) (int64, int64)  { return a.Hi, b.Lo }
func highHigh(a, b api.Interval) (int64, int64) { return a.Hi, b.Hi }

// smallerMixed selects the corner with the smaller product of a lower end and an upper end.
func smallerMixed(a, b api.Interval) (int64, int64) {
	return choose[corner](a.Lo*b.Hi < a.Hi*b.Lo, lowHigh, highLow)(a, b)
}

// largerUniform selects the corner with the larger product of two lower or two upper ends.
func largerUniform(a, b api.Interval) (int64, int64) {
	return choose[corner](a.Lo*b.Lo > a.Hi*b.Hi, lowLow, highHigh)(a, b)
}
