package step

import (
	"armillary/api"
	"armillary/interval"
	"armillary/taylor"
)

// restriction returns the function that restricts boxes to b. Solutions are known to
// stay in b: a box that is disjoint from it tells nothing more of them.
func restriction(b []api.Interval) func([]api.Interval) []api.Interval {
	return func(a []api.Interval) []api.Interval {
		return mapped(a, func(i int, x api.Interval) api.Interval {
			if common, ok := interval.Intersect(x, b[i]); ok {
				return common
			}
			return b[i]
		})
	}
}

// extended returns series that have one more coefficient each.
func extended[T any](l [][]T, last []T) [][]T {
	if len(l) != len(last) {
		// Not required, but some have none then.
		return nil
	}
	return mapped(l, func(i int, s []T) []T { return append(s, last[i]) })
}

// constants returns the models of the intervals of a box.
func constants(b []api.Interval) []api.TaylorModel {
	return mapped(b, func(_ int, a api.Interval) api.TaylorModel { return taylor.Const(a) })
}

// truncated returns models without the terms beyond a degree.
func truncated(l []api.TaylorModel, deg int) []api.TaylorModel {
	return mapped(l, func(_ int, m api.TaylorModel) api.TaylorModel { return taylor.Truncate(m, deg) })
}

// mapped returns the results of f for all elements of a slice, with their indices.
func mapped[A, B any](l []A, f func(int, A) B) []B {
	results := make([]B, 0, len(l))
	for i, a := range l {
		results = append(results, f(i, a))
	}
	return results
}
