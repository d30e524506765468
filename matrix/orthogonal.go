package matrix

import (
	"sort"

	"armillary/api"
	"armillary/fixed"
)

// The least lengths with which a column of a matrix and one of the identity
// matrix are taken into a frame after their reduction.
const (
	leastColumn = 4096
	leastAxis   = 16384
)

// passes is how often a reduction goes through the whole frame: as its columns are
// only nearly orthogonal, each pass leaves a small part of what it should remove.
const passes = 3

// tooLong is above the length of every vector that a reduction returns, which is
// at most that of six components of 2^24, up to rounding.
const tooLong = 1 << 26

// vector is a column of numbers. Those beyond the rows of its matrix are 0.
type vector [api.MaxDim]int64

// frame is a sequence of columns that are nearly orthogonal and nearly of the length One.
type frame []vector

// Orthogonalize returns a matrix of nearly orthogonal columns with a length of
// nearly One, as far as possible in the directions of the columns of m.
func Orthogonalize(m [][]int64) [][]int64 {
	if !square(m) {
		return nil
	}
	n := len(m)
	var known frame
	for j := range n {
		known = append(known, direction(column(m, j), n, known.reduce))
	}
	return build(n, func(i, j int) int64 { return known[j][i] })
}

// column returns a column of a matrix.
func column(m [][]int64, j int) vector {
	var w vector
	for i, row := range m {
		w[i] = row[j]
	}
	return w
}

// axis returns a column of the identity matrix.
func axis(k int) vector {
	var w vector
	w[k] = api.One
	return w
}

// direction returns the direction of w after its reduction or, if too little of w
// is left, that of the first axis of which enough is left.
func direction(w vector, n int, reduce func(vector) vector) vector {
	if rest := reduce(w); rest.length() >= leastColumn {
		return rest.normalized()
	}
	for k := range n {
		if rest := reduce(axis(k)); rest.length() >= leastAxis {
			return rest.normalized()
		}
	}
	// A frame of fewer than n columns always leaves enough of an axis, as long
	// as the numbers are within the bounds.
	return vector{}
}

// reduce returns w without its parts along the columns of a frame.
func (f frame) reduce(w vector) vector {
	for range passes {
		for _, u := range f {
			w = w.without(u)
		}
	}
	return w
}

// without returns w without its part along u.
func (w vector) without(u vector) vector {
	var along int64
	for k := range w {
		part, _ := fixed.Mul(w[k], u[k])
		along += part
	}
	for k := range w {
		part, _ := fixed.Mul(along, u[k])
		w[k] -= part
	}
	return w
}

// length returns the length of a vector, rounded down.
func (w vector) length() int64 {
	var square int64
	for _, x := range w {
		square += x * x
	}
	longer := sort.Search(tooLong, func(r int) bool { return int64(r)*int64(r) > square })
	return int64(longer) - 1
}

// normalized returns w scaled to the length One, rounded down.
func (w vector) normalized() vector {
	length := w.length()
	for k, x := range w {
		w[k], _, _ = fixed.Div(x, length)
	}
	return w
}
