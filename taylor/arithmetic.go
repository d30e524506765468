package taylor

import (
	"slices"

	"armillary/api"
	"armillary/interval"
	"armillary/poly"
)

// Add returns the sum of two models.
func Add(a api.TaylorModel, b api.TaylorModel) api.TaylorModel {
	return withRemainders(poly.Add(a.P, b.P))(interval.Add(a.R, b.R))
}

// Sub returns the difference of two models.
func Sub(a api.TaylorModel, b api.TaylorModel) api.TaylorModel { return Add(a, Neg(b)) }

// Neg returns a model with its sign changed.
func Neg(a api.TaylorModel) api.TaylorModel {
	p := slices.Clone(a.P)
	for i := range p {
		p[i].C = -p[i].C
	}
	return api.TaylorModel{P: p, R: interval.Neg(a.R)}
}

// Mul returns the product of two models, with the terms of degree deg or less.
func Mul(a api.TaylorModel, b api.TaylorModel, deg int) api.TaylorModel {
	// The last remainder is entire if one of the models is unbounded.
	return withRemainders(poly.Mul(a.P, b.P, deg))(
		interval.Mul(poly.Range(a.P), b.R),
		interval.Mul(poly.Range(b.P), a.R),
		interval.Mul(a.R, b.R),
	)
}

// MulInterval returns the product of a model and an interval.
func MulInterval(a api.TaylorModel, c api.Interval) api.TaylorModel {
	return Mul(a, Const(c), api.MaxDegree)
}

// Truncate returns a model with the terms of degree deg or less, whose remainder
// encloses the others.
func Truncate(a api.TaylorModel, deg int) api.TaylorModel {
	return withRemainders(poly.Truncate(a.P, deg))(a.R)
}

// approximation is a result of package poly: a polynomial and what it misses.
type approximation struct {
	p      []api.Term
	missed api.Interval
}

// plus returns the model with this polynomial and, as its remainder, what the
// polynomial misses and the others given, added from left to right: a sum that is
// entire stays so, whatever is added to it.
func (x approximation) plus(remainders ...api.Interval) api.TaylorModel {
	sum := x.missed
	for _, r := range remainders {
		sum = interval.Add(sum, r)
	}
	if interval.IsEntire(sum) {
		return api.TaylorModel{R: sum}
	}
	return api.TaylorModel{P: x.p, R: sum}
}

// withRemainders returns the function that adds the other remainders to a result
// of package poly. It takes the two values of such a result as they are returned.
func withRemainders(p []api.Term, missed api.Interval) func(...api.Interval) api.TaylorModel {
	return approximation{p, missed}.plus
}
