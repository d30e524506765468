package poly

import (
	"maps"
	"slices"

	"armillary/api"
	"armillary/fixed"
	"armillary/interval"
)

// Add returns the sum of two polynomials, which is exact unless it fails.
func Add(a []api.Term, b []api.Term) ([]api.Term, api.Interval) {
	return truncated(merged(a, b), api.MaxDegree, api.Interval{})
}

// Scale returns a polynomial times a number, with a remainder for the rounding.
func Scale(a []api.Term, c int64) ([]api.Term, api.Interval) {
	return Mul(a, Const(c), api.MaxDegree)
}

// Truncate returns the terms of degree deg or less, with a remainder for the others.
func Truncate(a []api.Term, deg int) ([]api.Term, api.Interval) {
	return truncated(a, deg, api.Interval{})
}

// Mul returns the terms of degree deg or less, and never more than 6, of the
// product of two polynomials, with a remainder for the rounding and the others.
func Mul(a []api.Term, b []api.Term, deg int) ([]api.Term, api.Interval) {
	product, missing := multiplied(a, b)
	return truncated(product, min(deg, api.MaxDegree), missing)
}

// merged returns the collected terms of two polynomials.
func merged(a, b []api.Term) []api.Term {
	var sum []api.Term
merging:
	for {
		switch {
		case len(a) == 0 || len(b) == 0:
			break merging
		case compare(a[0].E, b[0].E) < 0:
			sum, a = append(sum, a[0]), a[1:]
		case compare(a[0].E, b[0].E) > 0:
			sum, b = append(sum, b[0]), b[1:]
		default:
			if c := a[0].C + b[0].C; c != 0 {
				sum = append(sum, api.Term{C: c, E: a[0].E})
			}
			a, b = a[1:], b[1:]
		}
	}
	return append(append(sum, a...), b...)
}

// multiplied returns the collected terms of a product, of any degree, and the sum
// of the rounding errors. The coefficients may be no numbers: only their sums
// count, and an int64 holds the sums of all products of valid polynomials.
func multiplied(a, b []api.Term) ([]api.Term, api.Interval) {
	sums := map[exponents]int64{}
	var missing api.Interval
	for _, s := range a {
		for _, t := range b {
			e := joined(s.E, t.E)
			down, up := fixed.Mul(s.C, t.C)
			if down != up {
				missing = plus(missing, roundingError(e))
			}
			sums[e] += down
		}
	}
	var product []api.Term
	for _, e := range slices.SortedFunc(maps.Keys(sums), compare) {
		if c := sums[e]; c != 0 {
			product = append(product, api.Term{C: c, E: e})
		}
	}
	return product, missing
}

// truncated returns the terms of degree deg or less, with a remainder for the
// others and for what is missing already. It fails where an operation fails.
func truncated(p []api.Term, deg int, missing api.Interval) ([]api.Term, api.Interval) {
	if !haveNumbers(p) {
		return nil, interval.Entire()
	}
	var kept []api.Term
	for _, t := range p {
		if degree(t.E) <= deg {
			kept = append(kept, t)
		} else {
			missing = plus(missing, termRange(t))
		}
	}
	remainder := interval.New(missing.Lo, missing.Hi)
	if len(kept) > api.MaxTerms || interval.IsEntire(remainder) {
		return nil, interval.Entire()
	}
	return kept, remainder
}

// joined returns the exponents of a product of terms.
func joined(d, e exponents) exponents {
	for i := range d {
		d[i] += e[i]
	}
	return d
}
