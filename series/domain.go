package series

import (
	"slices"

	"armillary/api"
	"armillary/interval"
	"armillary/taylor"
)

// domain is a kind of coefficients, with the operations that the recurrences and
// Horner's rule need.
type domain[T any] struct {
	// constant returns a coefficient with the given values, and bounds the values of
	// a coefficient.
	constant func(api.Interval) T
	bounds   func(T) api.Interval

	neg, square   func(a T) T
	add, sub, mul func(a, b T) T

	// times multiplies a coefficient by a time, and over divides it by its index.
	times func(a T, h api.Interval) T
	over  func(a T, n int64) T
}

// intervals returns the domain of intervals.
func intervals() domain[api.Interval] {
	same := func(a api.Interval) api.Interval { return a }
	return domain[api.Interval]{
		constant: same,
		bounds:   same,
		neg:      interval.Neg,
		square:   interval.Square,
		add:      interval.Add,
		sub:      interval.Sub,
		mul:      interval.Mul,
		times:    interval.Mul,
		over:     func(a api.Interval, n int64) api.Interval { return interval.MulRatio(a, 1, n) },
	}
}

// models returns the domain of Taylor models whose products have a degree.
func models(deg int) domain[api.TaylorModel] {
	mul := func(a, b api.TaylorModel) api.TaylorModel { return taylor.Mul(a, b, deg) }
	return domain[api.TaylorModel]{
		constant: taylor.Const,
		bounds:   taylor.Range,
		neg:      taylor.Neg,
		square:   func(a api.TaylorModel) api.TaylorModel { return mul(a, a) },
		add:      taylor.Add,
		sub:      taylor.Sub,
		mul:      mul,
		times:    taylor.MulInterval,
		over: func(a api.TaylorModel, n int64) api.TaylorModel {
			return taylor.MulInterval(a, interval.MulRatio(interval.Point(api.One), 1, n))
		},
	}
}

// convolution returns the sum of the products of a[i] and b[k-i] for i from first to
// last, added from left to right. That it starts with 0 changes none of the sums.
func (d domain[T]) convolution(a, b []T, k, first, last int) T {
	sum := d.constant(interval.Point(0))
	for i := first; i <= last; i++ {
		sum = d.add(sum, d.mul(a[i], b[k-i]))
	}
	return sum
}

// squared returns coefficient k of the square of a series.
func (d domain[T]) squared(a []T, k int) T {
	if k == 0 {
		return d.square(a[0])
	}
	return d.convolution(a, a, k, 0, k)
}

// ranges returns the values of coefficients.
func (d domain[T]) ranges(l []T) []api.Interval {
	var values []api.Interval
	for _, a := range l {
		values = append(values, d.bounds(a))
	}
	return values
}

// horner returns the value of a series.
func (d domain[T]) horner(l []T, h api.Interval) T {
	if len(l) == 0 {
		// Not required, but nothing is known of the value then.
		return d.constant(interval.Entire())
	}
	last := len(l) - 1
	v := l[last]
	for _, c := range slices.Backward(l[:last]) {
		v = d.add(d.times(v, h), c)
	}
	return v
}

// quotient returns the coefficient of a quotient that follows those in q.
func quotient(a, b, q []api.Interval) api.Interval {
	// For the first one the sum is empty, so that it is a[0] divided by b[0].
	k := len(q)
	s := intervals().convolution(b, q, k, 1, k)
	return interval.Div(interval.Sub(a[k], s), b[0])
}

// root returns the coefficient of a square root that follows those in r.
func root(a, r []api.Interval) api.Interval {
	k := len(r)
	if k == 0 {
		return firstOfRoot(a[0])
	}
	s := intervals().convolution(r, r, k, 1, k-1)
	return interval.Div(interval.Sub(a[k], s), interval.MulRatio(r[0], 2, 1))
}

// firstOfRoot returns the square roots of the elements of an interval; of those that
// may have none, nothing is known.
func firstOfRoot(a api.Interval) api.Interval {
	if a.Lo < 0 {
		return interval.Entire()
	}
	roots, _ := interval.Sqrt(a)
	return roots
}
