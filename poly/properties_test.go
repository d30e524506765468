package poly

import (
	"math"
	"math/big"
	"math/rand"
	"slices"
	"testing"

	"armillary/api"
	"armillary/interval"
)

// randomNumber returns a number other than 0, of any length up to the given one
// in bits, and often of this one.
func randomNumber(source *rand.Rand, bits int) int64 {
	length := bits
	if source.Intn(3) > 0 {
		length = 1 + source.Intn(bits)
	}
	x := 1 + source.Int63n(1<<length-1)
	if source.Intn(2) == 0 {
		return -x
	}
	return x
}

// randomExponents returns exponents of degree 6 or less, of some variables only.
func randomExponents(source *rand.Rand, variables int) exponents {
	var e exponents
	for range source.Intn(api.MaxDegree + 1) {
		e[source.Intn(variables)]++
	}
	return e
}

// randomPolynomial returns a valid polynomial of at most the given number of terms.
func randomPolynomial(source *rand.Rand, count, variables, bits int) []api.Term {
	known := map[exponents]bool{}
	var p []api.Term
	for range count {
		e := randomExponents(source, variables)
		if !known[e] {
			known[e] = true
			p = append(p, api.Term{C: randomNumber(source, bits), E: e})
		}
	}
	slices.SortFunc(p, func(s, t api.Term) int { return slices.Compare(s.E[:], t.E[:]) })
	return p
}

// randomPairs returns pairs of polynomials of all sizes. Most operations on them
// do not fail, but some do.
func randomPairs(seed int64, count int) [][2][]api.Term {
	source := rand.New(rand.NewSource(seed))
	var l [][2][]api.Term
	for i := range count {
		variables, bits := 1+source.Intn(6), []int{3, 12, 17, 20, 24, 31}[source.Intn(6)]
		size := 8
		if i%10 == 0 {
			size = api.MaxTerms
		}
		a := randomPolynomial(source, source.Intn(size+1), variables, bits)
		b := randomPolynomial(source, source.Intn(size+1), variables, bits)
		switch i % 5 {
		case 0:
			b = cancelling(source, a, b)
		case 1:
			b = slices.Clone(a)
			for j := range b {
				b[j].C = randomNumber(source, bits)
			}
		}
		l = append(l, [2][]api.Term{a, b})
	}
	return l
}

// cancelling returns b with some of its terms replaced by negatives of terms of a.
func cancelling(source *rand.Rand, a, b []api.Term) []api.Term {
	var opposite []api.Term
	for _, t := range a {
		if source.Intn(2) == 0 {
			opposite = append(opposite, api.Term{C: -t.C, E: t.E})
		}
	}
	for _, t := range b {
		taken := slices.ContainsFunc(opposite, func(s api.Term) bool { return s.E == t.E })
		if !taken && len(opposite) < api.MaxTerms {
			opposite = append(opposite, t)
		}
	}
	slices.SortFunc(opposite, func(s, t api.Term) int { return slices.Compare(s.E[:], t.E[:]) })
	return opposite
}

// P5.1: the operations as E2 and E3 describe them, in exact arithmetic.

// description holds the coefficients of a result before terms are dropped, and
// the ends of its remainder.
type description struct {
	c      map[exponents]*big.Int
	lo, hi *big.Int
}

func newDescription() description {
	return description{map[exponents]*big.Int{}, new(big.Int), new(big.Int)}
}

// collect adds a coefficient.
func (d description) collect(e exponents, c *big.Int) {
	if d.c[e] == nil {
		d.c[e] = new(big.Int)
	}
	d.c[e].Add(d.c[e], c)
}

// multiply adds the product of two coefficients, with its rounding error.
func (d description) multiply(e exponents, x, y int64) {
	exact := new(big.Int).Mul(big.NewInt(x), big.NewInt(y))
	c, rest := new(big.Int).DivMod(exact, big.NewInt(65536), new(big.Int))
	d.collect(e, c)
	if rest.Sign() != 0 {
		d.hi.Add(d.hi, big.NewInt(1))
		if !squares(e) {
			d.lo.Sub(d.lo, big.NewInt(1))
		}
	}
}

// squares reports whether all exponents are even.
func squares(e exponents) bool {
	return e[0]%2+e[1]%2+e[2]%2+e[3]%2+e[4]%2+e[5]%2 == 0
}

// describedRange returns the ends of the range of a term.
func describedRange(e exponents, c *big.Int) (lo, hi *big.Int) {
	zero, size := new(big.Int), new(big.Int).Abs(c)
	switch {
	case e == exponents{}:
		return c, c
	case squares(e) && c.Sign() > 0:
		return zero, c
	case squares(e):
		return c, zero
	}
	return new(big.Int).Neg(size), size
}

func isNumber(x *big.Int) bool { return x.CmpAbs(big.NewInt(1<<31)) < 0 }

// result returns the terms of degree deg or less, with the remainder.
func (d description) result(deg int) result {
	var r result
	for e, c := range d.c {
		sum := 0
		for _, n := range e {
			sum += int(n)
		}
		switch {
		case !isNumber(c):
			return failure()
		case c.Sign() == 0:
		case sum <= deg:
			r.p = append(r.p, api.Term{C: c.Int64(), E: e})
		default:
			lo, hi := describedRange(e, c)
			d.lo.Add(d.lo, lo)
			d.hi.Add(d.hi, hi)
		}
	}
	if len(r.p) > 100 || !isNumber(d.lo) || !isNumber(d.hi) {
		return failure()
	}
	slices.SortFunc(r.p, func(s, t api.Term) int { return slices.Compare(s.E[:], t.E[:]) })
	r.r = between(d.lo.Int64(), d.hi.Int64())
	return r
}

func describedSum(a, b []api.Term) result {
	d := newDescription()
	for _, t := range slices.Concat(a, b) {
		d.collect(t.E, big.NewInt(t.C))
	}
	return d.result(6)
}

func describedMultiple(a []api.Term, c int64) result {
	d := newDescription()
	for _, t := range a {
		d.multiply(t.E, t.C, c)
	}
	return d.result(6)
}

func describedTruncation(a []api.Term, deg int) result {
	d := newDescription()
	for _, t := range a {
		d.collect(t.E, big.NewInt(t.C))
	}
	return d.result(deg)
}

func describedProduct(a, b []api.Term, deg int) result {
	d := newDescription()
	for _, s := range a {
		for _, t := range b {
			e := s.E
			for i := range e {
				e[i] += t.E[i]
			}
			d.multiply(e, s.C, t.C)
		}
	}
	return d.result(min(deg, 6))
}

func TestDescribedOperations(t *testing.T) {
	source := rand.New(rand.NewSource(1))
	failures, count := map[string]int{}, 0
	compare := func(call string, got, want result) {
		t.Helper()
		check(t, call, got, want)
		if want.r == entire {
			failures[call]++
		}
	}
	for _, x := range randomPairs(2, 4000) {
		a, b := x[0], x[1]
		c, deg := randomNumber(source, 31), source.Intn(11)-2
		compare("Add", of(Add(a, b)), describedSum(a, b))
		compare("Scale", of(Scale(a, c)), describedMultiple(a, c))
		compare("Truncate", of(Truncate(a, deg)), describedTruncation(a, deg))
		compare("Mul", of(Mul(a, b, deg)), describedProduct(a, b, deg))
		count++
	}
	for _, call := range []string{"Add", "Scale", "Truncate", "Mul"} {
		if n := failures[call]; n < 15 || n > count/2 {
			t.Errorf("%s fails in %d of %d cases: these tests miss something", call, n, count)
		}
	}
}

// describedEval is what E4 says of Eval.
func describedEval(p []api.Term, b []api.Interval) api.Interval {
	var power func(x api.Interval, n uint8) api.Interval
	power = func(x api.Interval, n uint8) api.Interval {
		if n == 1 {
			return x
		}
		if n%2 == 1 {
			return interval.Mul(power(x, n-1), x)
		}
		return interval.Square(power(x, n/2))
	}
	sum := point(0)
	for _, t := range p {
		value := point(t.C)
		for i := 0; i < 6; i++ {
			x := between(-one, one)
			if i < len(b) {
				x = b[i]
			}
			if t.E[i] > 0 {
				value = interval.Mul(value, power(x, t.E[i]))
			}
		}
		sum = interval.Add(sum, value)
	}
	return sum
}

// randomInterval returns an interval of any size up to the given one in bits,
// seldom the entire one.
func randomInterval(source *rand.Rand, bits int) api.Interval {
	x, y := randomNumber(source, bits), randomNumber(source, bits)
	switch source.Intn(12) {
	case 0:
		return entire
	case 1, 2, 3:
		return point(x)
	case 4:
		return between(min(x, 0), max(x, 0))
	}
	return between(min(x, y), max(x, y))
}

// randomBox returns a box of at most six coordinates.
func randomBox(source *rand.Rand) []api.Interval {
	var l []api.Interval
	bits := []int{8, 16, 18, 31}[source.Intn(4)]
	for range source.Intn(7) {
		l = append(l, randomInterval(source, bits))
	}
	return l
}

func TestDescribedRanges(t *testing.T) {
	source := rand.New(rand.NewSource(3))
	for _, x := range randomPairs(4, 4000) {
		p, b := x[0], randomBox(source)
		d := newDescription()
		for _, s := range p {
			lo, hi := describedRange(s.E, big.NewInt(s.C))
			d.lo.Add(d.lo, lo)
			d.hi.Add(d.hi, hi)
		}
		want := entire
		if isNumber(d.lo) && isNumber(d.hi) {
			want = between(d.lo.Int64(), d.hi.Int64())
		}
		if got := Range(p); got != want {
			t.Errorf("Range(%v) = %v, want %v", p, got, want)
		}
		if got, want := Eval(p, b), describedEval(p, b); got != want || !interval.Valid(got) {
			t.Errorf("Eval(%v, %v) = %v, want %v", p, b, got, want)
		}
	}
}

// P5.2: the remainder contains what a result misses.

// domainPoint returns a point of the domain, often on its boundary.
func domainPoint(source *rand.Rand) []*big.Rat {
	var l []*big.Rat
	for range api.MaxDim {
		n, d := source.Int63n(199)-99, int64(99)
		if source.Intn(2) == 0 {
			n, d = source.Int63n(3)-1, 1
		}
		l = append(l, big.NewRat(n, d))
	}
	return l
}

// valueAt returns the value of a polynomial at a point, in units.
func valueAt(p []api.Term, x []*big.Rat) *big.Rat {
	sum := new(big.Rat)
	for _, t := range p {
		value := big.NewRat(t.C, 1)
		for i, n := range t.E {
			for range n {
				value.Mul(value, x[i])
			}
		}
		sum.Add(sum, value)
	}
	return sum
}

// holds reports whether a value lies in an interval.
func holds(a api.Interval, value *big.Rat) bool {
	return a == entire || value.Cmp(big.NewRat(a.Lo, 1)) >= 0 && value.Cmp(big.NewRat(a.Hi, 1)) <= 0
}

func TestEnclosure(t *testing.T) {
	source := rand.New(rand.NewSource(5))
	for _, x := range randomPairs(6, 1500) {
		a, b := x[0], x[1]
		c, deg := randomNumber(source, 17), source.Intn(9)-1
		sum, multiple, part, product := of(Add(a, b)), of(Scale(a, c)), of(Truncate(a, deg)), of(Mul(a, b, deg))
		if sum.r != entire && sum.r != (api.Interval{}) {
			t.Errorf("the sum of %v and %v has the remainder %v", a, b, sum.r)
		}
		for range 6 {
			at := domainPoint(source)
			enclosed := func(call string, got result, value *big.Rat) {
				t.Helper()
				if missing := value.Sub(value, valueAt(got.p, at)); !holds(got.r, missing) {
					t.Errorf("%s for %v, %v, %d, %d: at %v, the remainder %v does not contain %v", call, a, b, c, deg, at, got.r, missing)
				}
			}
			enclosed("Add", sum, new(big.Rat).Add(valueAt(a, at), valueAt(b, at)))
			enclosed("Scale", multiple, new(big.Rat).Mul(valueAt(a, at), big.NewRat(c, one)))
			enclosed("Truncate", part, valueAt(a, at))
			exact := new(big.Rat).Mul(valueAt(a, at), valueAt(b, at))
			enclosed("Mul", product, exact.Mul(exact, big.NewRat(1, one)))
		}
	}
}

// P5.3: Range and Eval contain the values, and Eval is isotonic.

func TestRangeEnclosesValues(t *testing.T) {
	source := rand.New(rand.NewSource(7))
	for _, x := range randomPairs(8, 1500) {
		p := x[0]
		for range 6 {
			at := domainPoint(source)
			if r, value := Range(p), valueAt(p, at); !holds(r, value) {
				t.Errorf("the value %v of %v at %v is not in its range %v", value, p, at, r)
			}
			if r, value := Eval(p, nil), valueAt(p, at); !holds(r, value) {
				t.Errorf("the value %v of %v at %v is not in %v", value, p, at, r)
			}
		}
	}
}

// element returns an element of an interval, often one of its ends.
func element(source *rand.Rand, a api.Interval) *big.Rat {
	switch source.Intn(4) {
	case 0:
		return big.NewRat(a.Lo, one)
	case 1:
		return big.NewRat(a.Hi, one)
	case 2:
		if a == entire {
			return big.NewRat(math.MaxInt64, 7)
		}
	}
	part := big.NewRat(source.Int63n(98), 97)
	part.Mul(part, big.NewRat(a.Hi-a.Lo, one))
	return part.Add(part, big.NewRat(a.Lo, one))
}

// subset returns an interval within another one, sometimes of two points only.
func subset(source *rand.Rand, a api.Interval) api.Interval {
	inner := a
	if a == entire {
		inner = between(-largest, largest)
	}
	switch source.Intn(5) {
	case 0:
		return a
	case 1:
		return point(inner.Lo)
	case 2:
		return point(inner.Hi)
	}
	x := inner.Lo + source.Int63n(inner.Hi-inner.Lo+1)
	y := inner.Lo + source.Int63n(inner.Hi-inner.Lo+1)
	return between(min(x, y), max(x, y))
}

// full returns a box with the coordinates that a shorter one leaves out.
func full(b []api.Interval) []api.Interval {
	l := slices.Clone(b)
	for len(l) < api.MaxDim {
		l = append(l, between(-one, one))
	}
	return l
}

func TestEvalEnclosesValues(t *testing.T) {
	source := rand.New(rand.NewSource(9))
	bounded := 0
	for _, x := range randomPairs(10, 3000) {
		p, b := x[0], randomBox(source)
		r := Eval(p, b)
		if r != entire {
			bounded++
		}
		for range 4 {
			var at []*big.Rat
			for _, a := range full(b) {
				at = append(at, element(source, a))
			}
			if value := valueAt(p, at); !holds(r, value) {
				t.Errorf("the value %v of %v at %v is not in the result %v for %v", value, p, at, r, b)
			}
		}
	}
	if bounded < 1000 {
		t.Errorf("only %d results are bounded", bounded)
	}
}

func TestEvalIsIsotonic(t *testing.T) {
	source := rand.New(rand.NewSource(11))
	for _, x := range randomPairs(12, 3000) {
		p, b := x[0], randomBox(source)
		whole := Eval(p, b)
		for range 4 {
			inner := full(b)
			for i, a := range inner {
				inner[i] = subset(source, a)
			}
			if part := Eval(p, inner); whole != entire && (part.Lo < whole.Lo || part.Hi > whole.Hi) {
				t.Errorf("Eval of %v is %v on %v, but %v on %v", p, part, inner, whole, b)
			}
		}
	}
}

// P5.4: algebra.

func TestCommutativity(t *testing.T) {
	source := rand.New(rand.NewSource(13))
	for _, x := range randomPairs(14, 3000) {
		a, b, deg := x[0], x[1], source.Intn(10)-2
		check(t, "b + a", of(Add(b, a)), of(Add(a, b)))
		check(t, "b a", of(Mul(b, a, deg)), of(Mul(a, b, deg)))
	}
}

func TestAssociativity(t *testing.T) {
	count := 0
	pairs := randomPairs(15, 3000)
	for i, x := range pairs {
		a, b, c := x[0], x[1], pairs[(i+1)%len(pairs)][0]
		ab, bc := of(Add(a, b)), of(Add(b, c))
		left, right := of(Add(ab.p, c)), of(Add(a, bc.p))
		if slices.ContainsFunc([]result{ab, bc, left, right}, failure().equals) {
			continue
		}
		count++
		check(t, "a + (b + c)", right, left)
	}
	if count < 1000 {
		t.Errorf("only %d sums do not fail", count)
	}
}

func TestNeutralElements(t *testing.T) {
	for _, x := range randomPairs(16, 1000) {
		p := x[0]
		check(t, "p + 0", of(Add(p, Const(0))), exact(p...))
		check(t, "0 + p", of(Add(Const(0), p)), exact(p...))
		check(t, "p 1", of(Mul(p, Const(one), 6)), exact(p...))
		check(t, "1 p", of(Mul(Const(one), p, 6)), exact(p...))
		check(t, "p times 1", of(Scale(p, one)), exact(p...))
		check(t, "p 0", of(Mul(p, Const(0), 6)), exact())
		check(t, "0 p", of(Mul(Const(0), p, 6)), exact())
		check(t, "p times 0", of(Scale(p, 0)), exact())
		check(t, "p of degree 6", of(Truncate(p, 6)), exact(p...))
	}
}

// P5.5: truncating a product.

func TestTruncatedProducts(t *testing.T) {
	count := 0
	for _, x := range randomPairs(17, 1500) {
		a, b := x[0], x[1]
		for higher := -2; higher <= 8; higher++ {
			product := of(Mul(a, b, higher))
			for lower := -2; lower <= higher; lower++ {
				want := of(Mul(a, b, lower))
				if product.equals(failure()) || want.equals(failure()) {
					continue
				}
				count++
				got := of(Truncate(product.p, lower))
				got.r.Lo += product.r.Lo
				got.r.Hi += product.r.Hi
				check(t, "a product truncated again", got, want)
			}
		}
	}
	if count < 10000 {
		t.Errorf("only %d products do not fail", count)
	}
}
