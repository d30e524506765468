package poly

import (
	"armillary/api"
	"armillary/interval"
)

// Range returns an interval that contains all values of a polynomial on [-1, 1].
func Range(p []api.Term) api.Interval {
	var sum api.Interval
	for _, t := range p {
		sum = plus(sum, termRange(t))
	}
	return interval.New(sum.Lo, sum.Hi)
}

// Eval returns an interval that contains all values of a polynomial on a box,
// whose coordinates are [-1, 1] where b has none.
func Eval(p []api.Term, b []api.Interval) api.Interval {
	power := powers(b)
	sum := interval.Point(0)
	for _, t := range p {
		value := interval.Point(t.C)
		for i, n := range t.E {
			if n > 0 {
				value = interval.Mul(value, power(i, n))
			}
		}
		sum = interval.Add(sum, value)
	}
	return sum
}

// powers returns a function that returns the power n of variable i, for n > 0. It
// computes each power once: the terms of a polynomial share many of them.
func powers(b []api.Interval) func(i int, n uint8) api.Interval {
	type argument struct {
		i int
		n uint8
	}
	known := map[argument]api.Interval{}
	var power func(i int, n uint8) api.Interval
	power = func(i int, n uint8) api.Interval {
		x, ok := known[argument{i, n}]
		switch {
		case ok:
			return x
		case n == 1:
			x = variable(b, i)
		case n%2 == 0:
			x = interval.Square(power(i, n/2))
		default:
			x = interval.Mul(power(i, n-1), power(i, 1))
		}
		known[argument{i, n}] = x
		return x
	}
	return power
}

// variable returns what variable i ranges over.
func variable(b []api.Interval, i int) api.Interval {
	if i < len(b) {
		return b[i]
	}
	return interval.New(-api.One, api.One)
}

// termRange returns the values of a term on [-1, 1].
func termRange(t api.Term) api.Interval {
	size := max(t.C, -t.C)
	switch {
	case degree(t.E) == 0:
		return api.Interval{Lo: t.C, Hi: t.C}
	case even(t.E):
		return api.Interval{Lo: min(t.C, 0), Hi: max(t.C, 0)}
	}
	return api.Interval{Lo: -size, Hi: size}
}

// roundingError returns what rounding down a coefficient with the given exponents
// misses on [-1, 1].
func roundingError(e exponents) api.Interval {
	if even(e) {
		return api.Interval{Lo: 0, Hi: 1}
	}
	return api.Interval{Lo: -1, Hi: 1}
}

// plus returns the sum of two intervals, whose ends need not be numbers: only
// those of a whole sum must be.
func plus(a, b api.Interval) api.Interval { return api.Interval{Lo: a.Lo + b.Lo, Hi: a.Hi + b.Hi} }
