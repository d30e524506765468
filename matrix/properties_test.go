package matrix

import (
	"math/big"
	"math/rand"
	"slices"
	"testing"

	"armillary/api"
	"armillary/box"
	"armillary/interval"
)

// randomNumber returns a number of any length up to the given one in bits.
func randomNumber(source *rand.Rand, bits int) int64 {
	x := source.Int63n(1 << (1 + source.Intn(bits)))
	if source.Intn(2) == 0 {
		return -x
	}
	return x
}

// randomSize returns a number that is not negative, of the given length in bits at most.
func randomSize(source *rand.Rand, bits int) int64 { return source.Int63n(1 << bits) }

// randomInterval returns an interval of any size, seldom the entire one.
func randomInterval(source *rand.Rand, bits int) api.Interval {
	x, y := randomNumber(source, bits), randomNumber(source, bits)
	switch source.Intn(60) {
	case 0:
		return entire
	case 1, 2, 3, 4, 5, 6:
		return point(x)
	case 7, 8, 9:
		return zero
	}
	return between(min(x, y), max(x, y))
}

func randomMatrix(source *rand.Rand, n, bits int) [][]api.Interval {
	return each(full(n, bits), func(bits int) api.Interval { return randomInterval(source, bits) })
}

// randomPoint returns an element of an interval, often one of its ends.
func randomPoint(source *rand.Rand, a api.Interval) int64 {
	lo, hi := max(a.Lo, -largest), min(a.Hi, largest)
	return []int64{lo, hi, lo + source.Int63n(hi-lo+1)}[source.Intn(3)]
}

// randomElement returns a number matrix in m.
func randomElement(source *rand.Rand, m [][]api.Interval) [][]int64 {
	return each(m, func(a api.Interval) int64 { return randomPoint(source, a) })
}

// randomPairs returns pairs of matrices of all sizes. The products of most
// elements, and most of their sums, are numbers.
func randomPairs(seed int64, count int) [][2][][]api.Interval {
	source := rand.New(rand.NewSource(seed))
	var l [][2][][]api.Interval
	for i := range count {
		n, bits := 1+i%6, 4+source.Intn(21)
		l = append(l, [2][][]api.Interval{randomMatrix(source, n, bits), randomMatrix(source, n, bits)})
	}
	return l
}

// The operations of layer 2 in exact arithmetic.

// enclosing returns make(floor(p), ceil(q)) for the minimum p and the maximum q
// of some values, or the entire interval if an operand is entire.
func enclosing(a, b api.Interval, values ...*big.Rat) api.Interval {
	order := func(p, q *big.Rat) int { return p.Cmp(q) }
	floor := func(q *big.Rat) *big.Int { return new(big.Int).Div(q.Num(), q.Denom()) }
	lo := floor(slices.MinFunc(values, order))
	hi := floor(new(big.Rat).Neg(slices.MaxFunc(values, order)))
	bound := big.NewInt(api.Max)
	if a == entire || b == entire || lo.CmpAbs(bound) >= 0 || hi.CmpAbs(bound) >= 0 {
		return entire
	}
	return between(lo.Int64(), -hi.Int64())
}

// combined returns the enclosure of f of each end of a and each end of b.
func combined(a, b api.Interval, f func(x, y int64) *big.Rat) api.Interval {
	return enclosing(a, b, f(a.Lo, b.Lo), f(a.Lo, b.Hi), f(a.Hi, b.Lo), f(a.Hi, b.Hi))
}

func multiple(a, b api.Interval) api.Interval {
	return combined(a, b, func(x, y int64) *big.Rat {
		return new(big.Rat).SetFrac(new(big.Int).Mul(big.NewInt(x), big.NewInt(y)), big.NewInt(one))
	})
}

func quotient(a, b api.Interval) api.Interval {
	return combined(a, b, func(x, y int64) *big.Rat { return big.NewRat(x*one, y) })
}

func sum(a, b api.Interval) api.Interval {
	return combined(a, b, func(x, y int64) *big.Rat { return big.NewRat(x+y, 1) })
}

func difference(a, b api.Interval) api.Interval {
	return combined(a, b, func(x, y int64) *big.Rat { return big.NewRat(x-y, 1) })
}

// P4.1: products.

// element returns an element of a product as D2 describes it.
func element(a, b [][]api.Interval, i, j int) api.Interval {
	x := multiple(a[i][0], b[0][j])
	for k := 1; k < len(a); k++ {
		x = sum(x, multiple(a[i][k], b[k][j]))
	}
	return x
}

func TestDescribedProducts(t *testing.T) {
	for _, p := range randomPairs(1, 3000) {
		a, b := p[0], p[1]
		product := Mul(a, b)
		if !Valid(product) || len(product) != len(a) {
			t.Fatalf("Mul(%v, %v) = %v", a, b, product)
		}
		for i := range a {
			for j := range b {
				if want := element(a, b, i, j); product[i][j] != want {
					t.Errorf("Mul(%v, %v) = %v, want %v at %d, %d", a, b, product, want, i, j)
				}
			}
		}
		for j := range b {
			column := transposedColumn(b, j)
			image := Apply(a, column)
			if !box.Valid(image) || len(image) != len(a) {
				t.Fatalf("Apply(%v, %v) = %v", a, column, image)
			}
			for i := range a {
				if want := element(a, b, i, j); image[i] != want {
					t.Errorf("Apply(%v, %v) = %v, want %v at %d", a, column, image, want, i)
				}
			}
		}
	}
}

func transposedColumn(m [][]api.Interval, j int) []api.Interval {
	var l []api.Interval
	for _, row := range m {
		l = append(l, row[j])
	}
	return l
}

func TestConversions(t *testing.T) {
	source := rand.New(rand.NewSource(11))
	for _, p := range randomPairs(2, 3000) {
		m := p[0]
		if got, want := Mid(m), each(m, interval.Mid); !equal(got, want) {
			t.Errorf("Mid(%v) = %v, want %v", m, got, want)
		}
		l := randomElement(source, m)
		if got := FromNumbers(l); !equal(got, points(l)) || !Valid(got) || !equal(Mid(got), l) {
			t.Errorf("FromNumbers(%v) = %v", l, got)
		}
	}
}

// P4.2: inclusion.

// exactProduct returns the product of a row and a column in squares of a unit.
func exactProduct(row, column []int64) *big.Int {
	total := new(big.Int)
	for k := range row {
		total.Add(total, new(big.Int).Mul(big.NewInt(row[k]), big.NewInt(column[k])))
	}
	return total
}

// holds reports whether an interval contains a number of squares of a unit.
func holds(a api.Interval, x *big.Int) bool {
	return a == entire || x.Cmp(big.NewInt(a.Lo*one)) >= 0 && x.Cmp(big.NewInt(a.Hi*one)) <= 0
}

func TestProductsContainExactProducts(t *testing.T) {
	source := rand.New(rand.NewSource(12))
	bounded := 0
	for _, p := range randomPairs(3, 6000) {
		x, y := randomElement(source, p[0]), randomElement(source, p[1])
		product := Mul(p[0], p[1])
		for i, row := range x {
			for j, column := range transposed(y) {
				if !holds(product[i][j], exactProduct(row, column)) {
					t.Errorf("Mul(%v, %v) = %v without the product of %v and %v", p[0], p[1], product, x, y)
				}
				if product[i][j] != entire {
					bounded++
				}
			}
		}
		column := transposed(y)[0]
		image := Apply(p[0], transposedColumn(p[1], 0))
		for i, row := range x {
			if !holds(image[i], exactProduct(row, column)) {
				t.Errorf("Apply(%v, %v) = %v without the product of %v and %v", p[0], transposedColumn(p[1], 0), image, x, column)
			}
		}
	}
	if bounded < 20000 {
		t.Error("few elements of the products are bounded:", bounded)
	}
}

// TestProductsOfNumbersAreTight checks that each summand is rounded by less than a unit.
func TestProductsOfNumbersAreTight(t *testing.T) {
	source := rand.New(rand.NewSource(13))
	for _, p := range randomPairs(4, 6000) {
		n := int64(len(p[0]))
		x, y := randomElement(source, p[0]), randomElement(source, p[1])
		for _, row := range Mul(points(x), points(y)) {
			for _, a := range row {
				if a != entire && a.Hi-a.Lo > n {
					t.Errorf("Mul(%v, %v) has the element %v", x, y, a)
				}
			}
		}
	}
}

// P4.3: transposition.

func TestTransposition(t *testing.T) {
	for _, p := range randomPairs(5, 6000) {
		a, b := p[0], p[1]
		turned := Transpose(a)
		if !Valid(turned) || !equal(Transpose(turned), a) {
			t.Errorf("Transpose(%v) = %v", a, turned)
		}
		for i, row := range turned {
			if !slices.Equal(row, transposedColumn(a, i)) {
				t.Errorf("Transpose(%v) = %v", a, turned)
			}
		}
		if got, want := Transpose(Mul(a, b)), Mul(Transpose(b), turned); !equal(got, want) {
			t.Errorf("%v, %v: the transposed product is %v, the product of the transposed %v", a, b, got, want)
		}
	}
}

func TestIdentityIsNeutral(t *testing.T) {
	for _, p := range randomPairs(6, 6000) {
		m := each(p[0], func(a api.Interval) api.Interval {
			if a == entire {
				return widest
			}
			return a
		})
		id := Identity(len(m))
		if left, right := Mul(id, m), Mul(m, id); !equal(left, m) || !equal(right, m) {
			t.Errorf("%v times the identity matrix is %v and %v", m, left, right)
		}
		if got := Apply(id, m[0]); !slices.Equal(got, m[0]) {
			t.Errorf("Apply of the identity matrix to %v is %v", m[0], got)
		}
		if !equal(Transpose(id), id) {
			t.Errorf("%v is not symmetric", id)
		}
		if inverse, ok := Inverse(id); !ok || !equal(inverse, id) {
			t.Errorf("Inverse(%v) = %v, %t", id, inverse, ok)
		}
	}
}
