package series

import (
	"slices"

	"armillary/api"
	"armillary/interval"
)

// expansion is what is known of the series of a tape: the coefficients of the state
// variables, and those of the instructions.
type expansion[T any] struct {
	domain[T]
	tape    api.Tape
	start   api.Interval
	states  [][]T
	results [][]T
}

// expand returns the coefficients of the state variables up to an order.
func expand[T any](d domain[T], c api.Tape, x []T, t api.Interval, order int) [][]T {
	if order < 0 || order > api.MaxOrder || !usable(c, len(x)) {
		// Not required, but there may be no coefficients then.
		return nil
	}
	e := expansion[T]{domain: d, tape: c, start: t, results: make([][]T, len(c.L))}
	for _, a := range x {
		e.states = append(e.states, []T{a})
	}
	for k := range order {
		for i := range c.L {
			e.results[i] = append(e.results[i], e.next(i, k))
		}
		for i, out := range c.Out {
			e.states[i] = append(e.states[i], e.over(e.results[out][k], int64(k+1)))
		}
	}
	return e.states
}

// next returns the coefficient k of instruction i, whose earlier ones are known, as
// are those of its operands up to k.
func (e *expansion[T]) next(i, k int) T {
	in := e.tape.L[i]
	switch in.Op {
	case api.Num:
		return e.constant(coefficientOf(k, in.C))
	case api.Time:
		return e.constant(coefficientOf(k, e.start, interval.Point(api.One)))
	case api.Var:
		return e.states[in.A][k]
	}
	a, b := e.results[in.A], e.results[in.B]
	switch in.Op {
	case api.Neg:
		return e.neg(a[k])
	case api.Add:
		return e.add(a[k], b[k])
	case api.Sub:
		return e.sub(a[k], b[k])
	case api.Mul:
		return e.convolution(a, b, k, 0, k)
	case api.Sqr:
		return e.squared(a, k)
	case api.Div:
		return e.constant(quotient(e.ranges(a), e.ranges(b), e.ranges(e.results[i])))
	}
	return e.constant(root(e.ranges(a), e.ranges(e.results[i])))
}

// coefficientOf returns coefficient k of a polynomial in time.
func coefficientOf(k int, polynomial ...api.Interval) api.Interval {
	if k < len(polynomial) {
		return polynomial[k]
	}
	return interval.Point(0)
}

// usable reports whether a tape has an output for each of n state variables, and
// uses only state variables and instructions that there are.
func usable(c api.Tape, n int) bool {
	for i, in := range c.L {
		switch {
		case in.Op == api.Num || in.Op == api.Time:
		case in.Op == api.Var && isIndex(in.A, n):
		case in.Op >= api.Neg && in.Op <= api.Div && isIndex(in.A, i) && isIndex(in.B, i):
		default:
			return false
		}
	}
	missing := func(i int) bool { return !isIndex(i, len(c.L)) }
	return len(c.Out) == n && !slices.ContainsFunc(c.Out, missing)
}

// isIndex reports whether i is the index of one of n elements.
func isIndex(i, n int) bool { return 0 <= i && i < n }
