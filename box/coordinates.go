package box

import "iter"

// pairs enumerates the pairs of coordinates of two vectors, in increasing order
// of the index, as far as both have one.
func pairs[A, B any](a []A, b []B) iter.Seq2[A, B] {
	return func(yield func(A, B) bool) {
		for i := range min(len(a), len(b)) {
			if !yield(a[i], b[i]) {
				return
			}
		}
	}
}

// every reports whether two vectors have the same number of coordinates, and a
// condition holds for all pairs of them.
func every[A, B any](a []A, b []B, holds func(A, B) bool) bool {
	for x, y := range pairs(a, b) {
		if !holds(x, y) {
			return false
		}
	}
	return len(a) == len(b)
}

// mapped returns the vector of the results of f for all coordinates.
func mapped[A, B any](l []A, f func(A) B) []B {
	results := make([]B, len(l))
	for i, x := range l {
		results[i] = f(x)
	}
	return results
}
