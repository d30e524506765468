package series

import (
	"math/big"
	"math/rand"
	"slices"
	"testing"

	"armillary/api"
	"armillary/interval"
	"armillary/taylor"
)

// P9.2: larger boxes and start times have larger coefficients, and series of lower
// order are prefixes.

// widened returns an interval that contains another one.
func widened(source *rand.Rand, a api.Interval) api.Interval {
	if a == entire || source.Intn(20) == 0 {
		return entire
	}
	by := []int64{0, 1, 100, one / 4}[source.Intn(4)]
	return between(max(a.Lo-source.Int63n(by+1), -largest), min(a.Hi+source.Int63n(by+1), largest))
}

func TestIsotonicity(t *testing.T) {
	source := rand.New(rand.NewSource(11))
	var c census
	strict := 0
	for range 4000 {
		p := randomTape(source, 1+source.Intn(20))
		x, start := randomBox(source, p.N), randomInterval(source)
		y, later := []api.Interval{}, widened(source, start)
		for _, a := range x {
			y = append(y, widened(source, a))
		}
		inner, outer := Coefficients(p, x, start, 8), Coefficients(p, y, later, 8)
		for i := range inner {
			for k, a := range inner[i] {
				b := outer[i][k]
				if !interval.Subset(a, b) {
					t.Fatalf("coefficient %d of variable %d for %v is %v for %v and %v, but %v for %v and %v", k, i, p, a, x, start, b, y, later)
				}
				if c.count(b != entire); a != b && b != entire {
					strict++
				}
			}
		}
	}
	c.check(t)
	if strict < c.bounded/10 {
		t.Errorf("%d of %d coefficients are strictly larger: these tests miss something", strict, c.bounded)
	}
}

func TestPrefixes(t *testing.T) {
	source := rand.New(rand.NewSource(12))
	for range 300 {
		c := randomTape(source, 1+source.Intn(20))
		x, m, start, deg := randomBox(source, c.N), randomModels(source, c.N), randomInterval(source), source.Intn(4)
		s, u := Coefficients(c, x, start, 8), ModelCoefficients(c, m, api.Expansion{T: start, Order: 8, Deg: deg})
		for order := range 9 {
			got, models := Coefficients(c, x, start, order), ModelCoefficients(c, m, api.Expansion{T: start, Order: order, Deg: deg})
			for i := range c.N {
				if !slices.Equal(got[i], s[i][:order+1]) {
					t.Fatalf("the series of order %d for %v is %v, that of order 8 is %v", order, c, got[i], s[i])
				}
				if !slices.EqualFunc(models[i], u[i][:order+1], equalModels) {
					t.Fatalf("the series of order %d for %v is %v, that of order 8 is %v", order, c, models[i], u[i])
				}
			}
		}
	}
}

// P9.3: the coefficients of models intersect those of the box that they represent.

// representation returns models of a box: variables, constants, and sums of both.
func representation(source *rand.Rand, x []api.Interval) []api.TaylorModel {
	var l []api.TaylorModel
	for i, a := range x {
		m := taylor.Var(i, a)
		switch source.Intn(4) {
		case 0:
			m = taylor.Const(a)
		case 1:
			middle := interval.Mid(a)
			if a != entire {
				m = taylor.Add(taylor.Var(i, between(a.Lo, middle)), taylor.Const(between(0, a.Hi-middle)))
			}
		}
		l = append(l, m)
	}
	return l
}

func TestModelsOfBoxes(t *testing.T) {
	source := rand.New(rand.NewSource(13))
	var c census
	for i := range 2000 {
		p := randomTape(source, 1+source.Intn(20))
		x := randomBox(source, p.N)
		g := api.Expansion{T: randomInterval(source), Order: 3 + source.Intn(6), Deg: source.Intn(4)}
		if i%10 == 0 {
			g.Order, g.Deg = 2, 6
		}
		s, m := Coefficients(p, x, g.T, g.Order), ModelCoefficients(p, representation(source, x), g)
		for i := range s {
			for k, a := range s[i] {
				b := taylor.Range(m[i][k])
				if _, ok := interval.Intersect(a, b); !ok {
					t.Fatalf("coefficient %d of variable %d for %v, %v, %v is %v, but %v with models", k, i, p, x, g, a, b)
				}
				c.count(a != entire && b != entire)
			}
		}
	}
	c.check(t)
}

// P9.4: three systems with known solutions.

func TestConstantDerivatives(t *testing.T) {
	source := rand.New(rand.NewSource(14))
	for i := range 500 {
		x, c, order := randomInterval(source), randomInterval(source), i%9
		want := slices.Concat([]api.Interval{x, c}, repeated(point(0), 7))[:order+1]
		p := tapeOf([]int{0}, value(c))
		checkSeries(t, "Coefficients of a constant", Coefficients(p, []api.Interval{x}, randomInterval(source), order), want)
		m := randomModel(source)
		models := slices.Concat([]api.TaylorModel{m}, constants(want[1:]...))
		g := api.Expansion{T: randomInterval(source), Order: order, Deg: i % 7}
		checkModels(t, "ModelCoefficients of a constant", ModelCoefficients(p, []api.TaylorModel{m}, g), models)
	}
}

func TestTimeAsDerivative(t *testing.T) {
	source := rand.New(rand.NewSource(15))
	for i := range 500 {
		x, start, order := randomInterval(source), randomInterval(source), i%9
		want := slices.Concat([]api.Interval{x, start, ratio(1, 2)}, repeated(point(0), 6))[:order+1]
		p := tapeOf([]int{0}, do(api.Time))
		checkSeries(t, "Coefficients of the time", Coefficients(p, []api.Interval{x}, start, order), want)
		m := randomModel(source)
		models := slices.Concat([]api.TaylorModel{m}, constants(want[1:]...))
		g := api.Expansion{T: start, Order: order, Deg: i % 7}
		checkModels(t, "ModelCoefficients of the time", ModelCoefficients(p, []api.TaylorModel{m}, g), models)
	}
}

func TestLinearDerivatives(t *testing.T) {
	source := rand.New(rand.NewSource(16))
	var c census
	for i := range 1000 {
		x, a, start := randomInterval(source), randomInterval(source), randomInterval(source)
		want := []api.Interval{x}
		for k := range i % 9 {
			want = append(want, interval.MulRatio(interval.Mul(a, want[k]), 1, int64(k+1)))
			c.count(want[k+1] != entire)
		}
		for _, in := range []api.Instruction{do(api.Mul, 0, 1), do(api.Mul, 1, 0)} {
			p := tapeOf([]int{2}, value(a), do(api.Var, 0), in)
			checkSeries(t, "Coefficients of a product", Coefficients(p, []api.Interval{x}, start, i%9), want)
		}
		// The remainders of models that take any value are not known.
		m, deg := randomModel(source), i%7
		models := []api.TaylorModel{m}
		for k := range i % 9 {
			m = divided(taylor.Mul(taylor.Const(a), m, deg), int64(k+1))
			models = append(models, m)
		}
		if slices.ContainsFunc(models, func(m api.TaylorModel) bool { return taylor.Range(m) == entire }) {
			continue
		}
		p := tapeOf([]int{2}, value(a), do(api.Var, 0), do(api.Mul, 0, 1))
		got := ModelCoefficients(p, models[:1], api.Expansion{T: start, Order: i % 9, Deg: deg})
		checkModels(t, "ModelCoefficients of a product", got, models)
	}
	c.check(t)
}

// P9.5: the value at 0 is the first coefficient, and those at the times in a subset
// are among those at all times.

// randomSeries returns a series of at least one coefficient.
func randomSeries(source *rand.Rand) []api.Interval {
	return randomBox(source, 1+source.Intn(9))
}

func isBounded(l []api.Interval) bool { return !slices.Contains(l, entire) }

func TestValuesAtZero(t *testing.T) {
	source := rand.New(rand.NewSource(17))
	var c census
	for range 2000 {
		s := randomSeries(source)
		c.count(isBounded(s))
		want := s[0]
		if !isBounded(s) {
			want = entire
		}
		if got := Eval([][]api.Interval{s}, point(0)); !slices.Equal(got, []api.Interval{want}) {
			t.Fatalf("Eval(%v, 0) = %v", s, got)
		}
		m := randomModels(source, 1+source.Intn(9))
		if slices.ContainsFunc(m, func(m api.TaylorModel) bool { return taylor.Range(m) == entire }) {
			continue
		}
		if got := EvalModels([][]api.TaylorModel{m}, point(0)); len(got) != 1 || !equalModels(got[0], m[0]) {
			t.Fatalf("EvalModels(%v, 0) = %v", m, got)
		}
	}
	c.check(t)
}

func TestValuesAtSubsets(t *testing.T) {
	source := rand.New(rand.NewSource(18))
	var c census
	for range 4000 {
		l, h := [][]api.Interval{randomSeries(source), randomSeries(source)}, randomInterval(source)
		inner := Eval(l, h)
		// A value is that of each series for itself, whatever contains the time.
		for i, b := range Eval(l, widened(source, h)) {
			c.count(b != entire)
			if !interval.Subset(inner[i], b) || inner[i] != Eval(l[i:i+1], h)[0] {
				t.Fatalf("the values of %v at %v are %v, but one in a larger interval is %v", l, h, inner, b)
			}
		}
	}
	c.check(t)
}

// Theorem T1 for series: at points, the exact coefficients and values lie in those
// that the functions return.

func plus(x, y *big.Rat) *big.Rat { return new(big.Rat).Add(x, y) }

func minus(x, y *big.Rat) *big.Rat { return new(big.Rat).Sub(x, y) }

func times(x, y *big.Rat) *big.Rat { return new(big.Rat).Mul(x, y) }

func over(x *big.Rat, n int64) *big.Rat { return times(x, big.NewRat(1, n)) }

// units returns a number of units as a number.
func units(x int64) *big.Rat { return big.NewRat(x, one) }

// element returns an element of an interval, often one of its ends.
func element(source *rand.Rand, a api.Interval) *big.Rat {
	switch n := source.Intn(4); {
	case a == entire:
		return big.NewRat(source.Int63n(99), 7)
	case n == 0:
		return units(a.Lo)
	case n == 1:
		return units(a.Hi)
	}
	return plus(units(a.Lo), times(units(a.Hi-a.Lo), big.NewRat(source.Int63n(9), 8)))
}

// contains reports whether a number lies in an interval.
func contains(a api.Interval, x *big.Rat) bool {
	return a == entire || x.Cmp(units(a.Lo)) >= 0 && x.Cmp(units(a.Hi)) <= 0
}

// domainPoint returns a point at which models have values.
func domainPoint(source *rand.Rand) []*big.Rat {
	var l []*big.Rat
	for range api.MaxDim {
		l = append(l, element(source, whole(-1, 1)))
	}
	return l
}

// polynomialAt returns the value of a polynomial at a point.
func polynomialAt(p []api.Term, at []*big.Rat) *big.Rat {
	sum := new(big.Rat)
	for _, t := range p {
		v := units(t.C)
		for i, n := range t.E {
			for range n {
				v.Mul(v, at[i])
			}
		}
		sum.Add(sum, v)
	}
	return sum
}

// hasValue reports whether a number is a value of a model at a point.
func hasValue(m api.TaylorModel, at []*big.Rat, x *big.Rat) bool {
	return contains(m.R, minus(x, polynomialAt(m.P, at)))
}

// squareRoot returns the square root of a number, and false if it is not rational.
func squareRoot(x *big.Rat) (*big.Rat, bool) {
	if x.Sign() < 0 {
		return nil, false
	}
	root := new(big.Rat).SetFrac(new(big.Int).Sqrt(x.Num()), new(big.Int).Sqrt(x.Denom()))
	return root, times(root, root).Cmp(x) == 0
}

// solver computes the exact coefficients of the solution that starts at a point, with
// a number in place of each constant.
type solver struct {
	c         api.Tape
	constants []*big.Rat
	start     *big.Rat
	states    [][]*big.Rat
	l         [][]*big.Rat
}

// sum returns the sum of a[n] b[k-n] for n from first to last.
func (s *solver) sum(a, b []*big.Rat, k, first, last int) *big.Rat {
	total := new(big.Rat)
	for n := first; n <= last; n++ {
		total.Add(total, times(a[n], b[k-n]))
	}
	return total
}

// next returns the coefficient k of an instruction, and false if there is none or it
// is not known.
func (s *solver) next(i, k int) (*big.Rat, bool) {
	in := s.c.L[i]
	switch in.Op {
	case api.Num:
		return []*big.Rat{s.constants[i], new(big.Rat)}[min(k, 1)], true
	case api.Var:
		return s.states[in.A][k], true
	case api.Time:
		return []*big.Rat{s.start, big.NewRat(1, 1), new(big.Rat)}[min(k, 2)], true
	}
	a, b, own := s.l[in.A], s.l[in.B], s.l[i]
	switch in.Op {
	case api.Neg:
		return minus(new(big.Rat), a[k]), true
	case api.Add:
		return plus(a[k], b[k]), true
	case api.Sub:
		return minus(a[k], b[k]), true
	case api.Mul:
		return s.sum(a, b, k, 0, k), true
	case api.Sqr:
		return s.sum(a, a, k, 0, k), true
	case api.Div:
		if b[0].Sign() == 0 {
			return nil, false
		}
		return times(minus(a[k], s.sum(b, own, k, 1, k)), new(big.Rat).Inv(b[0])), true
	}
	if k == 0 {
		return squareRoot(a[0])
	}
	if own[0].Sign() == 0 {
		return nil, false
	}
	return times(minus(a[k], s.sum(own, own, k, 1, k-1)), new(big.Rat).Inv(plus(own[0], own[0]))), true
}

// solve computes the coefficients up to an order, and returns whether all are known.
func (s *solver) solve(order int) bool {
	s.l = make([][]*big.Rat, len(s.c.L))
	for k := range order {
		for i := range s.c.L {
			a, ok := s.next(i, k)
			if !ok {
				return false
			}
			s.l[i] = append(s.l[i], a)
		}
		for i, out := range s.c.Out {
			s.states[i] = append(s.states[i], over(s.l[out][k], int64(k+1)))
		}
	}
	return true
}

// exactSeries returns the exact coefficients for a start in given numbers, and false
// if they are not known.
func exactSeries(source *rand.Rand, c api.Tape, x []*big.Rat, start *big.Rat, order int) ([][]*big.Rat, bool) {
	s := solver{c: c, start: start}
	for _, in := range c.L {
		s.constants = append(s.constants, element(source, in.C))
	}
	for _, a := range x {
		s.states = append(s.states, []*big.Rat{a})
	}
	known := s.solve(order)
	return s.states, known
}

func TestExactCoefficients(t *testing.T) {
	source := rand.New(rand.NewSource(19))
	var c census
	for range 3000 {
		p := randomTape(source, 1+source.Intn(8))
		x, start, order := randomBox(source, p.N), randomInterval(source), source.Intn(7)
		s := Coefficients(p, x, start, order)
		for range 2 {
			var at []*big.Rat
			for _, a := range x {
				at = append(at, element(source, a))
			}
			want, ok := exactSeries(source, p, at, element(source, start), order)
			if !ok {
				continue
			}
			for i := range s {
				for k, a := range s[i] {
					if c.count(a != entire); !contains(a, want[i][k]) {
						t.Fatalf("coefficient %d of variable %d for %v, %v, %v is %v, without %v", k, i, p, x, start, a, want[i][k])
					}
				}
			}
		}
	}
	if c.check(t); c.all < 10000 {
		t.Errorf("only %d coefficients are known", c.all)
	}
}

func TestExactModelCoefficients(t *testing.T) {
	source := rand.New(rand.NewSource(20))
	var c census
	for range 2000 {
		p := randomTape(source, 1+source.Intn(8))
		x := randomModels(source, p.N)
		g := api.Expansion{T: randomInterval(source), Order: source.Intn(6), Deg: source.Intn(api.MaxDegree + 1)}
		m := ModelCoefficients(p, x, g)
		at, start := domainPoint(source), []*big.Rat{}
		for _, a := range x {
			start = append(start, plus(polynomialAt(a.P, at), element(source, a.R)))
		}
		want, ok := exactSeries(source, p, start, element(source, g.T), g.Order)
		if !ok {
			continue
		}
		for i := range m {
			for k, a := range m[i] {
				if c.count(a.R != entire); !hasValue(a, at, want[i][k]) {
					t.Fatalf("coefficient %d of variable %d for %v, %v, %v is %v, without the value %v at %v", k, i, p, x, g, a, want[i][k], at)
				}
			}
		}
	}
	if c.check(t); c.all < 5000 {
		t.Errorf("only %d coefficients are known", c.all)
	}
}

func TestExactValues(t *testing.T) {
	source := rand.New(rand.NewSource(21))
	var c census
	for range 3000 {
		s, m, h := randomSeries(source), randomModels(source, 1+source.Intn(5)), randomInterval(source)
		got, models := Eval([][]api.Interval{s}, h)[0], EvalModels([][]api.TaylorModel{m}, h)[0]
		c.count(models.R != entire)
		for range 3 {
			now, at := element(source, h), domainPoint(source)
			v, w := new(big.Rat), new(big.Rat)
			for _, a := range slices.Backward(s) {
				v = plus(times(v, now), element(source, a))
			}
			for _, a := range slices.Backward(m) {
				w = plus(times(w, now), plus(polynomialAt(a.P, at), element(source, a.R)))
			}
			if !contains(got, v) {
				t.Fatalf("Eval(%v, %v) = %v, without %v", s, h, got, v)
			}
			if !hasValue(models, at, w) {
				t.Fatalf("EvalModels(%v, %v) = %v, without the value %v at %v", m, h, models, w, at)
			}
		}
	}
	c.check(t)
}
