package taylor

import (
	"math"
	"math/big"
	"math/rand"
	"slices"
	"testing"

	"armillary/api"
	"armillary/interval"
	"armillary/poly"
)

// randomNumber returns a number of any length up to the given one in bits.
func randomNumber(source *rand.Rand, bits int) int64 {
	x := source.Int63n(1 << (1 + source.Intn(bits)))
	if source.Intn(2) == 0 {
		return -x
	}
	return x
}

// randomInterval returns an interval of any size up to the given one in bits,
// seldom the entire one.
func randomInterval(source *rand.Rand, bits int) api.Interval {
	x, y := randomNumber(source, bits), randomNumber(source, bits)
	switch source.Intn(20) {
	case 0:
		return entire
	case 1, 2, 3, 4:
		return point(x)
	case 5, 6:
		return api.Interval{}
	}
	return between(min(x, y), max(x, y))
}

// randomModel returns a valid model of at most the given number of terms. Operations
// on them are unbounded sometimes if they are of 31 bits, and seldom otherwise.
func randomModel(source *rand.Rand, count, bits int) api.TaylorModel {
	r := randomInterval(source, bits)
	if r == entire {
		return unbounded()
	}
	variables, known := 1+source.Intn(6), map[[6]uint8]bool{}
	var p []api.Term
	for range source.Intn(count + 1) {
		u := api.Term{C: randomNumber(source, bits)}
		for range source.Intn(api.MaxDegree + 1) {
			u.E[source.Intn(variables)]++
		}
		if u.C != 0 && !known[u.E] {
			known[u.E] = true
			p = append(p, u)
		}
	}
	slices.SortFunc(p, func(s, t api.Term) int { return slices.Compare(s.E[:], t.E[:]) })
	return model(r, p...)
}

// randomPairs returns pairs of models of all sizes. The polynomials of some differ
// in the remainders only.
func randomPairs(seed int64, count int) [][2]api.TaylorModel {
	source := rand.New(rand.NewSource(seed))
	var l [][2]api.TaylorModel
	for i := range count {
		bits, size := []int{4, 12, 17, 20, 23, 31}[source.Intn(6)], 6
		if i%20 == 0 {
			size = api.MaxTerms
		}
		a, b := randomModel(source, size, bits), randomModel(source, size, bits)
		if i%7 == 0 && b.R != entire {
			b.P = a.P
		}
		l = append(l, [2]api.TaylorModel{a, b})
	}
	return l
}

// P6.1: the functions as F2 to F4 describe them, with the functions of package
// poly and package interval.

// described returns the model with a polynomial and a remainder.
func described(p []api.Term, r api.Interval) api.TaylorModel {
	if interval.IsEntire(r) {
		return unbounded()
	}
	return model(r, p...)
}

func describedSum(a, b api.TaylorModel) api.TaylorModel {
	p, r := poly.Add(a.P, b.P)
	return described(p, interval.Add(interval.Add(a.R, b.R), r))
}

func describedNegative(a api.TaylorModel) api.TaylorModel {
	var p []api.Term
	for _, t := range a.P {
		p = append(p, api.Term{C: 0 - t.C, E: t.E})
	}
	return model(between(0-a.R.Hi, 0-a.R.Lo), p...)
}

func describedProduct(a, b api.TaylorModel, deg int) api.TaylorModel {
	if a.R == entire || b.R == entire {
		return unbounded()
	}
	p, r := poly.Mul(a.P, b.P, deg)
	r = interval.Add(r, interval.Mul(poly.Range(a.P), b.R))
	r = interval.Add(r, interval.Mul(poly.Range(b.P), a.R))
	return described(p, interval.Add(r, interval.Mul(a.R, b.R)))
}

func describedTruncation(a api.TaylorModel, deg int) api.TaylorModel {
	p, r := poly.Truncate(a.P, deg)
	return described(p, interval.Add(a.R, r))
}

func TestDescribedFunctions(t *testing.T) {
	source := rand.New(rand.NewSource(1))
	failures, count := map[string]int{}, 5000
	compare := func(call string, got, want api.TaylorModel) {
		t.Helper()
		check(t, call, got, want)
		if want.R == entire {
			failures[call]++
		}
	}
	for _, x := range randomPairs(2, count) {
		a, b, deg := x[0], x[1], source.Intn(api.MaxDegree+1)
		c := randomInterval(source, []int{17, 31}[source.Intn(2)])
		compare("Add", Add(a, b), describedSum(a, b))
		compare("Neg", Neg(a), describedNegative(a))
		compare("Sub", Sub(a, b), describedSum(a, describedNegative(b)))
		compare("Mul", Mul(a, b, deg), describedProduct(a, b, deg))
		compare("MulInterval", MulInterval(a, c), describedProduct(a, Const(c), 6))
		compare("Truncate", Truncate(a, deg), describedTruncation(a, deg))
		if got, want := Range(a), interval.Add(poly.Range(a.P), a.R); got != want {
			t.Errorf("Range(%v) = %v, want %v", a, got, want)
		}
		l := randomBox(source)
		if got, want := Eval(a, l), interval.Add(poly.Eval(a.P, l), a.R); got != want {
			t.Errorf("Eval(%v, %v) = %v, want %v", a, l, got, want)
		}
	}
	for _, call := range []string{"Add", "Neg", "Sub", "Mul", "MulInterval", "Truncate"} {
		if n := failures[call]; n < count/50 || n > count/2 {
			t.Errorf("%s is unbounded in %d of %d cases: these tests miss something", call, n, count)
		}
	}
}

// P6.2: the results contain the values of sums, differences and products.

// domainPoint returns a point of the domain, often on its boundary.
func domainPoint(source *rand.Rand) []*big.Rat {
	var l []*big.Rat
	for range api.MaxDim {
		n, d := source.Int63n(199)-99, int64(99)
		if source.Intn(2) == 0 {
			n, d = source.Int63n(3)-1, 1
		}
		l = append(l, big.NewRat(n, d))
	}
	return l
}

// units returns a number of units as a number.
func units(x int64) *big.Rat { return big.NewRat(x, one) }

func plus(x, y *big.Rat) *big.Rat { return new(big.Rat).Add(x, y) }

func minus(x, y *big.Rat) *big.Rat { return new(big.Rat).Sub(x, y) }

func times(x, y *big.Rat) *big.Rat { return new(big.Rat).Mul(x, y) }

// polynomialAt returns the value of a polynomial at a point.
func polynomialAt(p []api.Term, at []*big.Rat) *big.Rat {
	sum := new(big.Rat)
	for _, t := range p {
		value := units(t.C)
		for i, n := range t.E {
			for range n {
				value.Mul(value, at[i])
			}
		}
		sum.Add(sum, value)
	}
	return sum
}

// element returns an element of an interval, often one of its ends.
func element(source *rand.Rand, a api.Interval) *big.Rat {
	switch source.Intn(4) {
	case 0:
		return units(a.Lo)
	case 1:
		return units(a.Hi)
	case 2:
		if a == entire {
			return big.NewRat(math.MinInt64, 7)
		}
	}
	return plus(units(a.Lo), times(units(a.Hi-a.Lo), big.NewRat(source.Int63n(98), 97)))
}

// valueAt returns one of the values of a model at a point.
func valueAt(source *rand.Rand, a api.TaylorModel, at []*big.Rat) *big.Rat {
	return plus(polynomialAt(a.P, at), element(source, a.R))
}

// contains reports whether a number lies in an interval.
func contains(a api.Interval, x *big.Rat) bool {
	return a == entire || x.Cmp(units(a.Lo)) >= 0 && x.Cmp(units(a.Hi)) <= 0
}

// hasValue reports whether a number is a value of a model at a point.
func hasValue(a api.TaylorModel, at []*big.Rat, x *big.Rat) bool {
	return contains(a.R, minus(x, polynomialAt(a.P, at)))
}

func TestInclusion(t *testing.T) {
	source := rand.New(rand.NewSource(3))
	for _, pair := range randomPairs(4, 3000) {
		a, b, deg := pair[0], pair[1], source.Intn(api.MaxDegree+1)
		c := randomInterval(source, 20)
		sum, difference, product, negative, multiple := Add(a, b), Sub(a, b), Mul(a, b, deg), Neg(a), MulInterval(a, c)
		for range 6 {
			at := domainPoint(source)
			x, y, z := valueAt(source, a, at), valueAt(source, b, at), element(source, c)
			included := func(call string, got api.TaylorModel, value *big.Rat) {
				t.Helper()
				if !hasValue(got, at, value) {
					t.Errorf("%s for %v, %v, %v, %d is %v, without the value %v at %v", call, a, b, c, deg, got, value, at)
				}
			}
			included("Add", sum, plus(x, y))
			included("Sub", difference, minus(x, y))
			included("Mul", product, times(x, y))
			included("Neg", negative, new(big.Rat).Neg(x))
			included("MulInterval", multiple, times(x, z))
		}
	}
}

// TestExpression is about values of expressions, whose operands are the same at
// every point: (x + y)^2 - (x - y)^2 is 4 x y.
func TestExpression(t *testing.T) {
	source := rand.New(rand.NewSource(5))
	for range 500 {
		x, y := Var(source.Intn(6), randomInterval(source, 19)), Var(source.Intn(6), randomInterval(source, 19))
		deg := source.Intn(api.MaxDegree + 1)
		sum, difference := Add(x, y), Sub(x, y)
		got := Sub(Mul(sum, sum, deg), Mul(difference, difference, deg))
		for range 6 {
			at := domainPoint(source)
			if value := times(big.NewRat(4, 1), times(valueAt(source, x, at), valueAt(source, y, at))); !hasValue(got, at, value) {
				t.Errorf("(x + y)^2 - (x - y)^2 for %v, %v, %d is %v, without the value %v at %v", x, y, deg, got, value, at)
			}
		}
	}
}

// P6.3: Range and Eval contain the values.

// randomBox returns a box of six subsets of [-1, 1].
func randomBox(source *rand.Rand) []api.Interval {
	var l []api.Interval
	for range api.MaxDim {
		x, y := source.Int63n(2*one+1)-one, source.Int63n(2*one+1)-one
		switch source.Intn(4) {
		case 0:
			x, y = -one, one
		case 1:
			x = y
		}
		l = append(l, between(min(x, y), max(x, y)))
	}
	return l
}

func TestRangesContainValues(t *testing.T) {
	source := rand.New(rand.NewSource(6))
	bounded := 0
	for _, pair := range randomPairs(7, 3000) {
		a, l := pair[0], randomBox(source)
		r, e := Range(a), Eval(a, l)
		if r != entire && e != entire {
			bounded++
		}
		for range 6 {
			at := domainPoint(source)
			if value := valueAt(source, a, at); !contains(r, value) {
				t.Errorf("Range(%v) = %v, without the value %v at %v", a, r, value, at)
			}
			for i := range at {
				at[i] = element(source, l[i])
			}
			if value := valueAt(source, a, at); !contains(e, value) {
				t.Errorf("Eval(%v, %v) = %v, without the value %v at %v", a, l, e, value, at)
			}
		}
	}
	if bounded < 2000 {
		t.Errorf("only %d ranges are bounded", bounded)
	}
}

// P6.4: the values of variables and constants.

// intervals returns intervals of all sizes, and the widest.
func intervals() []api.Interval {
	source := rand.New(rand.NewSource(8))
	l := []api.Interval{
		entire, between(-largest, largest), between(-largest, largest-1), between(1-largest, largest), between(2-largest, largest),
		point(largest), point(-largest), between(largest-1, largest), between(-largest, 1-largest), between(0, largest), between(-largest, 0),
	}
	for range 2000 {
		l = append(l, randomInterval(source, 31))
	}
	return l
}

// TestVariables checks the ends of an interval only: as the values of a polynomial
// between those at two points are values between these points, too, the numbers
// between the ends are values of the model.
func TestVariables(t *testing.T) {
	source := rand.New(rand.NewSource(9))
	for _, a := range intervals() {
		i := source.Intn(6)
		m := Var(i, a)
		if (m.R == entire) != (a == entire) {
			t.Errorf("Var(%d, %v) = %v", i, a, m)
		}
		low, high := domainPoint(source), domainPoint(source)
		low[i], high[i] = big.NewRat(-1, 1), big.NewRat(1, 1)
		least, greatest := plus(polynomialAt(m.P, low), units(m.R.Lo)), plus(polynomialAt(m.P, high), units(m.R.Hi))
		if least.Cmp(units(a.Lo)) > 0 || greatest.Cmp(units(a.Hi)) < 0 {
			t.Errorf("Var(%d, %v) = %v, without some numbers of the interval", i, a, m)
		}
		if least.Cmp(units(a.Lo-1)) < 0 || greatest.Cmp(units(a.Hi)) > 0 {
			t.Errorf("Var(%d, %v) = %v, with more numbers than the interval", i, a, m)
		}
	}
}

func TestConstants(t *testing.T) {
	source := rand.New(rand.NewSource(10))
	for _, a := range intervals() {
		m := Const(a)
		if (m.R == entire) != (a == entire) {
			t.Errorf("Const(%v) = %v", a, m)
		}
		for range 3 {
			value := polynomialAt(m.P, domainPoint(source))
			if plus(value, units(m.R.Lo)).Cmp(units(a.Lo)) != 0 || plus(value, units(m.R.Hi)).Cmp(units(a.Hi)) != 0 {
				t.Errorf("Const(%v) = %v, with other values than the numbers of the interval", a, m)
			}
		}
	}
}

// P6.5: a truncated model has the values of the model.

func TestTruncationPreservesValues(t *testing.T) {
	source := rand.New(rand.NewSource(11))
	bounded := 0
	for _, pair := range randomPairs(12, 2000) {
		a := pair[0]
		for deg := range api.MaxDegree + 1 {
			got := Truncate(a, deg)
			if got.R != entire {
				bounded++
			}
			if poly.Degree(got.P) > deg {
				t.Errorf("Truncate(%v, %d) = %v", a, deg, got)
			}
			at := domainPoint(source)
			if value := valueAt(source, a, at); !hasValue(got, at, value) {
				t.Errorf("Truncate(%v, %d) = %v, without the value %v at %v", a, deg, got, value, at)
			}
		}
	}
	if bounded < 8000 {
		t.Errorf("only %d truncated models are bounded", bounded)
	}
}
