package matrix

import (
	"math/big"
	"math/rand"
	"slices"
	"testing"
)

// Tests of P4.1 for D3, and of P4.4.

func TestOrthogonalize(t *testing.T) {
	for _, x := range []struct{ m, want [][]int64 }{
		{times(one, at(1, 1), at(0, 1)), unity(2, one)},
		{times(one, at(0, 5), at(7, 9)), rows(at(0, one), at(one, 0))},
		{times(one, at(3, 1), at(4, 0)), rows(at(39321, 52430), at(52428, -39321))},
		{rows(at(7 * one)), rows(at(one))},
		{rows(at(-7 * one)), rows(at(-one))},
		{rows(at(steep)), rows(at(one))},
		{rows(at(-steep)), rows(at(-one))},
		{full(6, int64(0)), unity(6, one)},
		{unity(6, -steep), unity(6, -one)},
		// A column that is zero, or that depends on those before it, is replaced
		// by the first axis that has not been used.
		{times(one, at(0, 0), at(0, 0)), unity(2, one)},
		{times(one, at(0, 0), at(2, 2)), rows(at(0, one), at(one, 0))},
		{times(one, at(0, 2), at(0, 0)), rows(at(one, 0), at(0, one))},
		{times(one, at(1, 0, 2), at(0, 0, 0), at(0, 1, 3)), rows(at(one, 0, 0), at(0, 0, one), at(0, one, 0))},
		{times(one, at(0, 0, 0), at(-5, 1, 9), at(0, 0, 0)), rows(at(0, one, 0), at(-one, 0, 0), at(0, 0, one))},
		{times(one, at(0, 0, 1), at(0, 1, 1), at(0, 0, 1)), rows(at(one, 0, 0), at(0, one, 0), at(0, 0, one))},
		// A column is taken if at least 4096 of it is left.
		{rows(at(-4095)), rows(at(one))},
		{rows(at(-4096)), rows(at(-one))},
		{rows(at(-4097)), rows(at(-one))},
		{rows(at(0)), rows(at(one))},
		{rows(at(one, 5*one), at(0, -4095)), rows(at(one, 0), at(0, one))},
		{rows(at(one, 5*one), at(0, -4096)), rows(at(one, 0), at(0, -one))},
		{rows(at(one, -steep), at(0, -4095)), rows(at(one, 0), at(0, one))},
		{rows(at(one, -steep), at(0, -4096)), rows(at(one, 0), at(0, -one))},
		// The lengths of (-2896, 2896) and (-2896, 2897) are 4095.56 and 4096.27.
		{rows(at(-2896, 0), at(2896, 0)), unity(2, one)},
		{rows(at(-2896, 0), at(2897, 0)), rows(at(-46336, 46348), at(46352, 46334))},
		// The squares of these lengths are 4096*4096 - 1 and 4096*4096.
		{rows(at(-4095, 0, 0, 0), at(90, 0, 0, 0), at(9, 0, 0, 0), at(3, 0, 0, 0)), unity(4, one)},
		{rows(at(-2048, 0, 0, 0), at(2048, 0, 0, 0), at(2048, 0, 0, 0), at(2048, 0, 0, 0)), rows(at(-32768, 56756, 2, 2), at(32768, 18918, 53512, 4), at(32768, 18918, -26754, 46343), at(32768, 18918, -26754, -46341))},
		// An axis is taken if at least 16384 of it is left: 16383 of the first one
		// here, and 16384 there.
		{rows(at(63454, 0), at(16384, 0)), rows(at(63454, -16384), at(16384, 63455))},
		{rows(at(63454, 0), at(16385, 0)), rows(at(63454, 16392), at(16385, -63456))},
		// Axes of which too little is left are passed over, also behind others.
		{rows(at(0, 0), at(-5, 0)), unity(2, one)},
		{rows(at(0, 0), at(-5*one, 0)), rows(at(0, one), at(-one, 0))},
	} {
		if got := Orthogonalize(x.m); !equal(got, x.want) {
			t.Errorf("Orthogonalize(%v) = %v, want %v", x.m, got, x.want)
		}
	}
}

// roundedDown returns a / b rounded down, for a b above 0.
func roundedDown(a, b *big.Int) *big.Int { return new(big.Int).Div(a, b) }

// innerProduct returns the sum of the products of the components, each rounded by a function.
func innerProduct(w, u []*big.Int, round func(*big.Int) *big.Int) *big.Int {
	sum := new(big.Int)
	for k := range w {
		sum.Add(sum, round(new(big.Int).Mul(w[k], u[k])))
	}
	return sum
}

// described returns the result of Orthogonalize as D3 describes it, in integers of any size.
func described(t *testing.T, m [][]int64) [][]int64 {
	unit := big.NewInt(one)
	whole := func(x *big.Int) *big.Int { return roundedDown(x, unit) }
	exact := func(x *big.Int) *big.Int { return x }
	var known [][]*big.Int
	for j := range m {
		candidates := [][]*big.Int{bigColumn(m, j)}
		for k := range m {
			candidates = append(candidates, bigColumn(unity(len(m), one), k))
		}
		least := big.NewInt(4096)
		for _, w := range candidates {
			for _, u := range slices.Concat(known, known, known) {
				c := innerProduct(w, u, whole)
				for k := range w {
					w[k].Sub(w[k], whole(new(big.Int).Mul(c, u[k])))
				}
			}
			length := new(big.Int).Sqrt(innerProduct(w, w, exact))
			if length.Cmp(least) >= 0 {
				for k, x := range w {
					w[k] = roundedDown(x.Mul(x, unit), length)
				}
				known = append(known, w)
				break
			}
			least = big.NewInt(16384)
		}
	}
	if len(known) != len(m) {
		t.Fatalf("%v leaves no candidate for a column", m)
	}
	result := full(len(m), int64(0))
	for j, w := range known {
		for i, x := range w {
			result[i][j] = x.Int64()
		}
	}
	return result
}

// bigColumn returns a column of a number matrix.
func bigColumn(m [][]int64, j int) []*big.Int {
	var w []*big.Int
	for _, row := range m {
		w = append(w, big.NewInt(row[j]))
	}
	return w
}

// numberMatrices returns number matrices of all sizes with elements up to 2^24.
// In many of them, the columns nearly depend on each other.
func numberMatrices(seed int64, count int) [][][]int64 {
	source := rand.New(rand.NewSource(seed))
	l := numberCorners()
	for range count {
		n, bits := 1+source.Intn(6), 13+source.Intn(12)
		noise, kind := 1+source.Intn(bits), source.Intn(4)
		m := full(n, int64(0))
		for i := range m {
			base := randomNumber(source, bits)
			for j := range m {
				x := randomNumber(source, noise)
				switch kind {
				case 0:
					x = randomNumber(source, bits)
				case 1:
					x += base
				case 2:
					x += base * int64(j) / 6
				case 3:
					x += base * int64(1-2*source.Intn(2))
				}
				m[i][j] = min(max(x, -steep), steep)
			}
		}
		l = append(l, m)
	}
	return l
}

// numberCorners returns matrices with elements of the largest and of small magnitudes.
func numberCorners() [][][]int64 {
	var l [][][]int64
	for n := 1; n <= 6; n++ {
		for _, x := range at(0, 1, -1, 4095, 4096, one, steep, -steep) {
			l = append(l, full(n, x), unity(n, x), except(full(n, x), n-1, 0, -x), except(full(n, x), n-1, n-1, x/2))
		}
		m := full(n, int64(steep))
		for i := range m {
			for j := range i {
				m[i][j] = -steep
			}
		}
		l = append(l, m)
	}
	return l
}

func TestDescribedOrthogonalization(t *testing.T) {
	for _, m := range numberMatrices(1, 10000) {
		if got, want := Orthogonalize(m), described(t, m); !equal(got, want) {
			t.Errorf("Orthogonalize(%v) = %v, want %v", m, got, want)
		}
	}
}

// P4.4: orthogonality.

// TestColumnsAreNearlyOrthonormal checks the lengths and the angles. A length is
// rounded down, at 4096 or more, and so is every component of a column.
func TestColumnsAreNearlyOrthonormal(t *testing.T) {
	const slack = 256 * one
	for _, m := range numberMatrices(2, 60000) {
		columns := transposed(Orthogonalize(m))
		if len(columns) != len(m) {
			t.Fatalf("Orthogonalize(%v) has %d columns", m, len(columns))
		}
		for j, u := range columns {
			if square := dot(u, u); square < one*one-6*one || square > one*one+40*one {
				t.Errorf("Orthogonalize(%v) has a column %v with the squared length %d", m, u, square)
			}
			for _, v := range columns[:j] {
				if product := dot(u, v); product < -slack || product > slack {
					t.Errorf("Orthogonalize(%v) has columns %v and %v with the product %d", m, u, v, product)
				}
			}
		}
	}
}

func transposed(m [][]int64) [][]int64 {
	result := full(len(m), int64(0))
	for i, row := range m {
		for j, x := range row {
			result[j][i] = x
		}
	}
	return result
}

func dot(u, v []int64) int64 {
	var sum int64
	for k := range u {
		sum += u[k] * v[k]
	}
	return sum
}
