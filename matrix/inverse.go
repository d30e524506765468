package matrix

import (
	"slices"

	"armillary/api"
	"armillary/interval"
)

// Inverse returns a matrix that contains the inverses of all matrices in m, and
// false if it finds none: m may contain a matrix that has no inverse, or the
// inverses are too large or enclosed too loosely.
func Inverse(m [][]api.Interval) ([][]api.Interval, bool) {
	if !square(m) {
		return nil, false
	}
	rows := augmented(m)
	for k := range rows {
		p := pivotRow(rows, k)
		if interval.Sign(rows[p][k]) == 0 {
			return nil, false
		}
		rows[k], rows[p] = rows[p], rows[k]
		eliminate(rows, k)
	}
	return rightHalf(rows)
}

// augmented returns the rows of m, each followed by that of the identity matrix.
func augmented(m [][]api.Interval) [][]api.Interval {
	rows := Identity(len(m))
	for i, row := range rows {
		rows[i] = slices.Concat(m[i], row)
	}
	return rows
}

// pivotRow returns the first of the rows from k on whose element in column k has
// the largest mignitude.
func pivotRow(rows [][]api.Interval, k int) int {
	best := k
	for i := k + 1; i < len(rows); i++ {
		if mignitude(rows[i][k]) > mignitude(rows[best][k]) {
			best = i
		}
	}
	return best
}

// mignitude returns the smallest magnitude in an interval. It is above 0 exactly
// if the interval has a sign.
func mignitude(a api.Interval) int64 { return max(a.Lo, -a.Hi, 0) }

// eliminate divides row k by its pivot, and subtracts it from the others so often
// that column k would become that of the identity matrix in exact arithmetic.
func eliminate(rows [][]api.Interval, k int) {
	pivot := rows[k][k]
	for j, x := range rows[k] {
		rows[k][j] = interval.Div(x, pivot)
	}
	for i, row := range rows {
		if i == k {
			continue
		}
		factor := row[k]
		for j, x := range rows[k] {
			row[j] = interval.Sub(row[j], interval.Mul(factor, x))
		}
	}
}

// rightHalf returns the right half of an augmented matrix, and false if it has an
// entire element.
func rightHalf(rows [][]api.Interval) ([][]api.Interval, bool) {
	half := make([][]api.Interval, len(rows))
	for i, row := range rows {
		half[i] = row[len(rows):]
		if slices.ContainsFunc(half[i], interval.IsEntire) {
			return nil, false
		}
	}
	return half, true
}
