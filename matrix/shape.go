package matrix

import "armillary/api"

// square reports whether m has 1 to 6 rows, each with as many elements.
func square[T any](m [][]T) bool {
	for _, row := range m {
		if len(row) != len(m) {
			return false
		}
	}
	return 1 <= len(m) && len(m) <= api.MaxDim
}

// build returns the n×n matrix with the element at(i, j) in row i and column j.
func build[T any](n int, at func(i, j int) T) [][]T {
	rows := make([][]T, n)
	for i := range n {
		rows[i] = make([]T, n)
		for j := range n {
			rows[i][j] = at(i, j)
		}
	}
	return rows
}

// mapped returns the results of f for all elements.
func mapped[A, B any](l []A, f func(A) B) []B {
	results := make([]B, len(l))
	for i, x := range l {
		results[i] = f(x)
	}
	return results
}
