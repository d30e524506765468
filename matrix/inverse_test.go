package matrix

import (
	"math/big"
	"math/rand"
	"testing"

	"armillary/api"
	"armillary/interval"
)

// Tests of P4.1 for D4, and of P4.5.

func TestInverse(t *testing.T) {
	for _, x := range []struct{ m, want [][]api.Interval }{
		{points(times(one, at(2, 0), at(0, 4))), points(rows(at(one/2, 0), at(0, one/4)))},
		{points(times(one, at(0, 1), at(1, 0))), points(times(one, at(0, 1), at(1, 0)))},
		{points(times(one, at(1, 2), at(0, 1))), points(times(one, at(1, -2), at(0, 1)))},
		{points(times(one, at(1, 2, 3), at(0, 1, 4), at(0, 0, 1))), points(times(one, at(1, -2, 5), at(0, 1, -4), at(0, 0, 1)))},
		// Ties: the first row is the pivot row here, the second one there.
		{points(times(one, at(3, 1), at(3, 2))), rows(of(between(43689, 43694), between(-21848, -21844)), of(between(-65541, -65534), between(65535, 65539)))},
		{points(times(one, at(1, 1, 0), at(-3, 0, 1), at(3, 0, 2))), rows(of(zero, between(-14565, -14562), between(7281, 7283)), of(point(one), between(14562, 14565), between(-7283, -7281)), of(zero, between(21844, 21847), between(21845, 21846)))},
		{points(times(one, at(0, 0, -4), at(0, 2, 0), at(1, 0, 0))), points(times(one/4, at(0, 0, 4), at(0, 2, 0), at(-1, 0, 0)))},
		{points(unity(6, -one)), points(unity(6, -one))},
		{rows(of(point(one))), rows(of(point(one)))},
		{rows(of(point(-3 * one))), rows(of(between(-21846, -21845)))},
		{rows(of(between(one, 2*one))), rows(of(between(one/2, one)))},
		{rows(of(between(-2*one, -one))), rows(of(between(-one, -one/2)))},
		{rows(of(between(one, 2*one), zero), of(zero, between(-4*one, -2*one))), rows(of(between(one/2, one), zero), of(zero, between(-one/2, -one/4)))},
		// Results next to the largest and to the smallest numbers.
		{rows(of(point(3))), rows(of(between(1431655765, 1431655766)))},
		{rows(of(between(3, largest))), rows(of(between(2, 1431655766)))},
		{rows(of(point(largest))), rows(of(between(2, 3)))},
		{rows(of(point(-largest))), rows(of(between(-3, -2)))},
		{rows(of(widest, point(one)), of(point(one), zero)), rows(of(zero, point(one)), of(point(one), widest))},
		{points(rows(at(one, largest), at(0, one))), points(rows(at(one, -largest), at(0, one)))},
		{points(rows(at(one, -largest), at(0, one))), points(rows(at(one, largest), at(0, one)))},
		{points(rows(at(one, 1), at(0, one))), points(rows(at(one, -1), at(0, one)))},
		// In the column that is done, 20000 times [1/2, 2] is entire.
		{rows(of(between(one, 2*one), zero), of(between(one, 20000*one), point(one))), rows(of(between(one/2, one), zero), of(between(-20000*one, -one/2), point(one)))},
	} {
		if got, ok := Inverse(x.m); !ok || !equal(got, x.want) {
			t.Errorf("Inverse(%v) = %v, %t, want %v", x.m, got, ok, x.want)
		}
	}
}

func TestInverseFails(t *testing.T) {
	for _, m := range [][][]api.Interval{
		points(times(one, at(1, 1), at(1, 1))),
		points(times(one, at(0, 1), at(0, 1))),
		points(times(one, at(1, 1), at(0, 0))),
		points(times(one, at(1, 2, 3), at(4, 5, 6), at(7, 8, 9))),
		points(unity(6, 0)),
		points(full(6, int64(one))),
		points(except(unity(6, one), 5, 5, 0)),
		rows(of(zero)),
		rows(of(between(-1, 1))),
		rows(of(between(0, one))),
		rows(of(between(-one, 0))),
		// Every candidate for the first or for the second pivot holds 0.
		rows(of(between(-1, 1), point(one)), of(between(-5, 0), point(one))),
		rows(of(between(0, 5), point(one)), of(widest, point(one))),
		rows(of(point(one), point(one)), of(zero, between(-1, one))),
		rows(of(point(one), point(one)), of(point(one), between(one, 2*one))),
		// Entire elements.
		rows(of(entire)),
		rows(of(entire, point(one)), of(point(one), zero)),
		rows(of(point(one), entire), of(zero, point(one))),
		rows(of(point(one), zero), of(entire, point(one))),
		rows(of(point(one), zero), of(zero, entire)),
		full(2, entire),
		full(6, entire),
		// Elements of the result that are no numbers.
		rows(of(point(2))),
		rows(of(point(1))),
		rows(of(point(-2))),
		rows(of(between(2, 3))),
		points(rows(at(one, 20000*one), at(0, one/2))),
		points(rows(at(one, largest), at(0, one-1))),
		points(except(unity(6, one), 3, 3, 2)),
	} {
		if got, ok := Inverse(m); ok || len(got) != 0 {
			t.Errorf("Inverse(%v) = %v, %t", m, got, ok)
		}
	}
	for i := range 36 {
		m := except(points(unity(6, one)), i/6, i%6, entire)
		if got, ok := Inverse(m); ok || len(got) != 0 {
			t.Errorf("Inverse(%v) = %v, %t", m, got, ok)
		}
	}
}

// inverted returns the result of Inverse as D4 describes it, with the operations
// of the exact arithmetic in this test. Where the candidates for a pivot tie, it
// calls tie with their rows to choose one.
func inverted(m [][]api.Interval, tie func(l []int) int) ([][]api.Interval, bool) {
	n := len(m)
	w := full(n, zero)
	for i := range w {
		w[i] = append(append(of(), m[i]...), points(unity(n, one))[i]...)
	}
	for k := range n {
		var best []int
		for i := k; i < n; i++ {
			a := w[i][k]
			if a.Lo <= 0 && a.Hi >= 0 {
				continue
			}
			if len(best) > 0 && smaller(a) > smaller(w[best[0]][k]) {
				best = nil
			}
			if len(best) == 0 || smaller(a) == smaller(w[best[0]][k]) {
				best = append(best, i)
			}
		}
		if len(best) == 0 {
			return nil, false
		}
		p := tie(best)
		w[k], w[p] = w[p], w[k]
		w[k] = each(rows(w[k]), func(x api.Interval) api.Interval { return quotient(x, w[k][k]) })[0]
		for i := range w {
			f := w[i][k]
			for j := range w[i] {
				if i != k {
					w[i][j] = difference(w[i][j], multiple(f, w[k][j]))
				}
			}
		}
	}
	for i := range w {
		w[i] = w[i][n:]
		for _, x := range w[i] {
			if x == entire {
				return nil, false
			}
		}
	}
	return w, true
}

func first(l []int) int { return l[0] }

func last(l []int) int { return l[len(l)-1] }

// smaller returns the smaller one of the magnitudes of the ends.
func smaller(a api.Interval) int64 { return min(max(a.Lo, -a.Lo), max(a.Hi, -a.Hi)) }

// intervalMatrices returns interval matrices of all sizes: many of them have an
// inverse, some tie for a pivot, some are singular, few have an entire element.
func intervalMatrices(seed int64, count int) [][][]api.Interval {
	source := rand.New(rand.NewSource(seed))
	l := [][][]api.Interval{full(1, entire), full(6, entire), full(6, zero), full(6, widest)}
	for range count {
		n, bits, width := 1+source.Intn(6), 14+source.Intn(11), source.Intn(16)
		kind := source.Intn(6)
		m := full(n, zero)
		for i := range n * n {
			x := randomNumber(source, bits)
			switch kind {
			case 0:
				x = one * (source.Int63n(7) - 3)
			case 1:
				x = one / 4 * (source.Int63n(3) - 1)
			case 2:
				x = randomNumber(source, 13)
			}
			m[i/n][i%n] = between(x-randomSize(source, width), x+randomSize(source, width))
		}
		for i, k := range source.Perm(n) {
			if kind == 2 || kind == 3 {
				m[i][k] = point(one << source.Intn(6))
			}
		}
		if source.Intn(30) == 0 {
			m[source.Intn(n)][source.Intn(n)] = entire
		}
		l = append(l, m)
	}
	return l
}

func TestDescribedInverse(t *testing.T) {
	var inverses, failures [7]int
	ties := 0
	for _, m := range intervalMatrices(1, 5000) {
		want, wanted := inverted(m, first)
		got, ok := Inverse(m)
		if ok != wanted || !equal(got, want) {
			t.Errorf("Inverse(%v) = %v, %t, want %v, %t", m, got, ok, want, wanted)
		}
		if other, same := inverted(m, last); same != wanted || !equal(other, want) {
			ties++
		}
		if ok {
			inverses[len(m)]++
		} else {
			failures[len(m)]++
		}
		if ok && !Valid(got) {
			t.Errorf("Inverse(%v) = %v, which is not valid", m, got)
		}
	}
	for n := 1; n <= 6; n++ {
		if inverses[n] < 300 || failures[n] < 100 {
			t.Errorf("with %d rows: %d inverses, %d failures", n, inverses[n], failures[n])
		}
	}
	if ties < 50 {
		t.Error("few ties matter:", ties)
	}
}

// P4.5: inverse.

// exactInverse returns the inverse of a number matrix in units, or nil if it has none.
func exactInverse(m [][]int64) [][]*big.Rat {
	n := len(m)
	w := each(m, func(x int64) *big.Rat { return big.NewRat(x, one) })
	for i, row := range unity(n, one) {
		w[i] = append(w[i], each(rows(row), func(x int64) *big.Rat { return big.NewRat(x, 1) })[0]...)
	}
	for k := range n {
		p := k
		for p < n && w[p][k].Sign() == 0 {
			p++
		}
		if p == n {
			return nil
		}
		w[k], w[p] = w[p], w[k]
		factor := new(big.Rat).Inv(w[k][k])
		for _, x := range w[k] {
			x.Mul(x, factor)
		}
		for i := range w {
			f := new(big.Rat).Set(w[i][k])
			for j, x := range w[i] {
				if i != k {
					x.Sub(x, new(big.Rat).Mul(f, w[k][j]))
				}
			}
		}
	}
	for i := range w {
		w[i] = w[i][n:]
	}
	return w
}

func TestInverseContainsAllInverses(t *testing.T) {
	source := rand.New(rand.NewSource(31))
	inverses := 0
	for _, m := range intervalMatrices(2, 2000) {
		inverse, ok := Inverse(m)
		if !ok {
			continue
		}
		inverses++
		for range 4 {
			a := randomElement(source, m)
			exact := exactInverse(a)
			if exact == nil {
				t.Fatalf("Inverse(%v) = %v, but %v is singular", m, inverse, a)
			}
			for i, row := range inverse {
				for j, x := range row {
					if exact[i][j].Cmp(big.NewRat(x.Lo, 1)) < 0 || exact[i][j].Cmp(big.NewRat(x.Hi, 1)) > 0 {
						t.Fatalf("Inverse(%v) = %v without %v at %d, %d, which is that of %v", m, inverse, exact[i][j], i, j, a)
					}
				}
			}
		}
	}
	if inverses < 500 {
		t.Error("few matrices are inverted:", inverses)
	}
}

// singularMatrix returns a matrix in which a row depends on the others.
func singularMatrix(source *rand.Rand) [][]int64 {
	n := 1 + source.Intn(6)
	m := each(full(n, zero), func(api.Interval) int64 { return randomNumber(source, 20) })
	dependent := source.Intn(n)
	clear(m[dependent])
	for i := range m {
		factor := source.Int63n(5) - 2
		for j := range m {
			if i != dependent {
				m[dependent][j] += factor * m[i][j]
			}
		}
	}
	if source.Intn(2) == 0 {
		return transposed(m)
	}
	return m
}

func TestInverseFailsForSingularMatrices(t *testing.T) {
	source := rand.New(rand.NewSource(32))
	for range 20000 {
		a := singularMatrix(source)
		width := source.Intn(12)
		m := each(a, func(x int64) api.Interval {
			return between(x-randomSize(source, width), x+randomSize(source, width))
		})
		if source.Intn(2) == 0 {
			m = points(a)
		}
		if inverse, ok := Inverse(m); ok || len(inverse) != 0 {
			t.Errorf("Inverse(%v) = %v, %t, but %v is singular", m, inverse, ok, a)
		}
	}
}

// TestInverseTimesMatrix checks that the product of a matrix and its inverse
// contains the identity matrix and, if the matrix is well-behaved, little else.
func TestInverseTimesMatrix(t *testing.T) {
	source := rand.New(rand.NewSource(33))
	for range 5000 {
		n := 1 + source.Intn(6)
		m := each(full(n, zero), func(api.Interval) api.Interval { return point(randomNumber(source, 13)) })
		for i, k := range source.Perm(n) {
			m[i][k] = point(one * (1 - 2*source.Int63n(2)))
		}
		inverse, ok := Inverse(m)
		if !ok {
			t.Fatalf("%v has no inverse", m)
		}
		for _, product := range [][][]api.Interval{Mul(m, inverse), Mul(inverse, m)} {
			for i := range n * n {
				a, x := product[i/n][i%n], unity(n, one)[i/n][i%n]
				if !interval.Contains(a, x) || interval.Width(a) > 400 {
					t.Errorf("%v times its inverse %v is %v", m, inverse, product)
				}
			}
		}
	}
}
