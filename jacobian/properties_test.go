package jacobian

import (
	"math/big"
	"math/rand"
	"slices"
	"testing"

	"armillary/api"
	"armillary/interval"
	"armillary/ode"
)

// P10.2: simplifying again changes nothing, and adds no nodes; the values of the
// simplified expression are among those of the original one.

func TestSimplifiedExpressions(t *testing.T) {
	source := rand.New(rand.NewSource(11))
	bounded, strict := 0, 0
	for i := range 40000 {
		e := randomExpr(source, 1+source.Intn([]int{3, 6, 20, 200}[i%4]), 3)
		s := Simplify(e)
		if !slices.Equal(Simplify(s), s) || len(s) > len(e) || !ode.ValidExpr(s, 3) {
			t.Fatalf("%v becomes %v, and that %v", e, s, Simplify(s))
		}
		x, time := randomBox(source, 3), randomInterval(source)
		a, b := ode.Eval(s, x, time), ode.Eval(e, x, time)
		if !interval.Subset(a, b) {
			t.Fatalf("%v has the values %v for %v, %v, but %v when it is %v", e, b, x, time, a, s)
		}
		if b != entire {
			bounded++
		}
		if a != b {
			strict++
		}
	}
	if bounded < 10000 || strict < 500 {
		t.Errorf("%d values are bounded, and %d change: these tests miss something", bounded, strict)
	}
}

// TestDerivativesAreSimplified is about the results of the other functions.
func TestDerivativesAreSimplified(t *testing.T) {
	source := rand.New(rand.NewSource(12))
	for i := range 3000 {
		e := randomExpr(source, 1+source.Intn([]int{3, 6, 20, 100}[i%4]), 3)
		for _, d := range [][]api.Node{Diff(e, 0), Diff(e, 2), TimeDerivative(e)} {
			if !slices.Equal(Simplify(d), d) {
				t.Fatalf("a derivative of %v is %v, simplified %v", e, d, Simplify(d))
			}
		}
	}
}

// Exact derivatives, by calculating with numbers that have two infinitesimal parts.
// Square roots have many bits behind the point: values are compared with a tolerance
// that is far smaller than a unit, but far larger than what it makes of that.

const precision = 400

var tolerance = new(big.Rat).SetFrac(big.NewInt(1), new(big.Int).Lsh(big.NewInt(1), 100))

func plus(x, y *big.Rat) *big.Rat { return new(big.Rat).Add(x, y) }

func minus(x, y *big.Rat) *big.Rat { return new(big.Rat).Sub(x, y) }

func times(x, y *big.Rat) *big.Rat { return new(big.Rat).Mul(x, y) }

func over(x, y *big.Rat) *big.Rat { return new(big.Rat).Quo(x, y) }

func integer(n int64) *big.Rat { return big.NewRat(n, 1) }

// units returns a number of units as a number.
func units(x int64) *big.Rat { return big.NewRat(x, one) }

// jet is a value with its derivatives in two directions, and the mixed second one.
type jet struct{ value, first, second, both *big.Rat }

func steady(x *big.Rat) jet { return jet{x, integer(0), integer(0), integer(0)} }

func jetSum(a, b jet) jet {
	return jet{plus(a.value, b.value), plus(a.first, b.first), plus(a.second, b.second), plus(a.both, b.both)}
}

func jetProduct(a, b jet) jet {
	return jet{
		times(a.value, b.value),
		plus(times(a.first, b.value), times(a.value, b.first)),
		plus(times(a.second, b.value), times(a.value, b.second)),
		plus(plus(times(a.both, b.value), times(a.value, b.both)), plus(times(a.first, b.second), times(a.second, b.first))),
	}
}

// composed returns a function of a jet, given its value and its first two derivatives.
func composed(a jet, value, slope, bend *big.Rat) jet {
	return jet{value, times(slope, a.first), times(slope, a.second), plus(times(slope, a.both), times(bend, times(a.first, a.second)))}
}

// jetRoot returns the square root of a positive number.
func jetRoot(a jet) jet {
	shifted := new(big.Int).Lsh(a.value.Num(), 2*precision)
	digits := new(big.Int).Sqrt(shifted.Quo(shifted, a.value.Denom()))
	r := new(big.Rat).SetFrac(digits, new(big.Int).Lsh(big.NewInt(1), precision))
	slope := over(big.NewRat(1, 2), r)
	return composed(a, r, slope, over(slope, times(integer(-2), a.value)))
}

// sample is a point at which expressions have values: the state variables, the time,
// and an element of each interval in place of which a number stands.
type sample struct {
	x    []jet
	time jet
	c    []*big.Rat
}

// valueAt returns the value of an expression, and false if it has none or cannot be
// differentiated there. It takes the elements of its intervals from the sample.
func (p *sample) valueAt(e []api.Node) (jet, bool) {
	var l []jet
	c := p.c[0]
	p.c = p.c[1:]
	for _, operand := range ode.Operands(e) {
		a, ok := p.valueAt(operand)
		if !ok {
			return jet{}, false
		}
		l = append(l, a)
	}
	negated := func(a jet) jet { return jetProduct(steady(integer(-1)), a) }
	switch e[0].Op {
	case api.Num:
		return steady(c), true
	case api.Var:
		return p.x[e[0].N], true
	case api.Time:
		return p.time, true
	case api.Neg:
		return negated(l[0]), true
	case api.Sqr:
		return jetProduct(l[0], l[0]), true
	case api.Sqrt:
		if l[0].value.Sign() <= 0 {
			return jet{}, false
		}
		return jetRoot(l[0]), true
	case api.Add:
		return jetSum(l[0], l[1]), true
	case api.Sub:
		return jetSum(l[0], negated(l[1])), true
	case api.Mul:
		return jetProduct(l[0], l[1]), true
	}
	if l[1].value.Sign() == 0 {
		return jet{}, false
	}
	inverse := over(integer(1), l[1].value)
	slope := times(integer(-1), times(inverse, inverse))
	return jetProduct(l[0], composed(l[1], inverse, slope, times(integer(-2), times(slope, inverse)))), true
}

// at returns the value of an expression at a sample, which stays as it is.
func (p sample) at(e []api.Node) (jet, bool) { return p.valueAt(e) }

// element returns an element of an interval, often one of its ends.
func element(source *rand.Rand, a api.Interval) *big.Rat {
	if a == entire {
		return big.NewRat(source.Int63n(1<<40)-1<<39, one)
	}
	switch source.Intn(4) {
	case 0:
		return units(a.Lo)
	case 1:
		return units(a.Hi)
	}
	part := big.NewRat(source.Int63n(1001), 1000)
	return plus(units(a.Lo), times(part, units(a.Hi-a.Lo)))
}

// elements returns elements of the intervals in an expression, and anything for its
// other nodes.
func elements(source *rand.Rand, e []api.Node) []*big.Rat {
	var l []*big.Rat
	for _, node := range e {
		l = append(l, element(source, node.C))
	}
	return l
}

// randomSample returns a sample in a box, for an expression, without directions.
func randomSample(source *rand.Rand, e []api.Node, x []api.Interval, time api.Interval) sample {
	p := sample{time: steady(element(source, time)), c: elements(source, e)}
	for _, a := range x {
		p.x = append(p.x, steady(element(source, a)))
	}
	return p
}

// isIn reports whether an interval contains a number, but for the tolerance.
func isIn(x *big.Rat, a api.Interval) bool {
	return a == entire || minus(x, units(a.Hi)).Cmp(tolerance) <= 0 && minus(units(a.Lo), x).Cmp(tolerance) <= 0
}

// census counts results, and those that tell something.
type census struct{ all, telling int }

func (c *census) count(telling bool) {
	c.all++
	if telling {
		c.telling++
	}
}

// check checks that enough of the results tell something.
func (c *census) check(t *testing.T) {
	t.Helper()
	if c.telling < 1000 || c.telling < c.all/20 {
		t.Errorf("%d of %d results tell something: these tests miss something", c.telling, c.all)
	}
}

// TestExactValues is about the values of simplified expressions.
func TestExactValues(t *testing.T) {
	source := rand.New(rand.NewSource(13))
	var c census
	for range 5000 {
		e := randomExpr(source, 1+source.Intn(12), 3)
		x, time := randomBox(source, 3), randomInterval(source)
		values := ode.Eval(Simplify(e), x, time)
		if exact, ok := randomSample(source, e, x, time).at(e); ok {
			c.count(values != entire)
			if !isIn(exact.value, values) {
				t.Fatalf("%v has the values %v for %v, %v when simplified, but also %s", e, values, x, time, exact.value.FloatString(9))
			}
		}
	}
	c.check(t)
}

// P10.3: the value of a derivative contains the exact one.

// pointsOf returns a box of one point, or of a few.
func pointsOf(source *rand.Rand, x []api.Interval) []api.Interval {
	l := slices.Clone(x)
	for i, a := range l {
		if a != entire {
			l[i] = point(a.Lo + source.Int63n(a.Hi-a.Lo+1))
		}
	}
	return l
}

func TestExactDerivatives(t *testing.T) {
	source := rand.New(rand.NewSource(14))
	var points, boxes census
	for i := range 12000 {
		e := randomExpr(source, 1+source.Intn(14), 2)
		x, time := randomBox(source, 2), randomInterval(source)
		if i%2 == 0 {
			x, time = pointsOf(source, x), pointsOf(source, []api.Interval{time})[0]
		}
		p := randomSample(source, e, x, time)
		p.x[0].first, p.time.second = integer(1), integer(1)
		exact, ok := p.at(e)
		if !ok {
			continue
		}
		for _, y := range []struct {
			exact *big.Rat
			d     []api.Node
		}{{exact.first, Diff(e, 0)}, {exact.second, TimeDerivative(e)}} {
			values := ode.Eval(y.d, x, time)
			telling := values != entire && !isConstant(y.d, 0)
			if i%2 == 0 {
				points.count(telling)
			} else {
				boxes.count(telling)
			}
			if !isIn(y.exact, values) {
				t.Fatalf("a derivative of %v is %v, with the values %v for %v, %v, but also %s", e, y.d, values, x, time, y.exact.FloatString(9))
			}
		}
	}
	points.check(t)
	boxes.check(t)
}

// TestKnownDerivatives is about derivatives at points that are known without rounding.
func TestKnownDerivatives(t *testing.T) {
	x := []api.Interval{point(4 * one), point(one / 2), point(-2 * one)}
	for _, y := range []struct {
		e    string
		i    int
		want int64
	}{
		{"sqrt(x)", 0, one / 4}, {"1/v", 1, -4 * one}, {"x/v", 1, -16 * one}, {"x/v", 0, 2 * one}, {"x*v*w", 0, -one}, {"x*v*w", 1, -8 * one}, {"x*v*w", 2, 2 * one}, {"sqr(x-w)", 0, 12 * one}, {"sqr(x-w)", 2, -12 * one}, {"-sqr(w)", 2, 4 * one}, {"1/sqr(w)", 2, one / 4}, {"sqrt(sqr(w))", 2, -one}, {"x-v", 1, -one}, {"x*x*x", 0, 48 * one}, {"1/(1/w)", 2, one},
	} {
		if got := ode.Eval(Diff(parse(t, y.e), y.i), x, point(0)); got != point(y.want) {
			t.Errorf("the derivative of %q by variable %d is %v, want %d", y.e, y.i, got, y.want)
		}
	}
}

// innerProduct returns the least and the greatest inner product of vectors in a box
// with a vector, and false if it is not bounded.
func innerProduct(gradient []api.Interval, by []*big.Rat) (*big.Rat, *big.Rat, bool) {
	lo, hi := integer(0), integer(0)
	for i, a := range gradient {
		if by[i].Sign() == 0 {
			continue
		}
		if a == entire {
			return nil, nil, false
		}
		x, y := times(units(a.Lo), by[i]), times(units(a.Hi), by[i])
		if by[i].Sign() < 0 {
			x, y = y, x
		}
		lo, hi = plus(lo, x), plus(hi, y)
	}
	return lo, hi, true
}

// TestMeanValues is about two points of a box at the same time.
func TestMeanValues(t *testing.T) {
	source := rand.New(rand.NewSource(15))
	var c census
	for range 8000 {
		e := randomExpr(source, 1+source.Intn(14), 2)
		x, time := randomBox(source, 2), randomInterval(source)
		p := randomSample(source, e, x, time)
		q := randomSample(source, e, x, time)
		q.time, q.c = p.time, p.c
		a, first := p.at(e)
		b, second := q.at(e)
		if !first || !second {
			continue
		}
		gradient := []api.Interval{ode.Eval(Diff(e, 0), x, time), ode.Eval(Diff(e, 1), x, time)}
		by := []*big.Rat{minus(q.x[0].value, p.x[0].value), minus(q.x[1].value, p.x[1].value)}
		lo, hi, ok := innerProduct(gradient, by)
		c.count(ok && lo.Cmp(hi) < 0)
		difference := minus(b.value, a.value)
		if ok && (minus(lo, difference).Cmp(tolerance) > 0 || minus(difference, hi).Cmp(tolerance) > 0) {
			t.Fatalf("%v on %v, %v has the gradient %v, but two values differ by %s, not from %s to %s", e, x, time, gradient, difference.FloatString(9), lo.FloatString(9), hi.FloatString(9))
		}
	}
	c.check(t)
}

// TestMeanValuesOfMatrices is the same for all right-hand sides of a system, with the
// values and the product as intervals.
func TestMeanValuesOfMatrices(t *testing.T) {
	source := rand.New(rand.NewSource(16))
	var c census
	for range 3000 {
		s := randomSystem(source, 8)
		n := len(s.F)
		x, time := randomBox(source, n), pointsOf(source, []api.Interval{randomInterval(source)})[0]
		a, b := pointsOf(source, x), pointsOf(source, x)
		before, after := ode.Derivatives(s, a, time), ode.Derivatives(s, b, time)
		for i, row := range Matrix(s, x, time) {
			sum := point(0)
			for j, slope := range row {
				sum = interval.Add(sum, interval.Mul(slope, interval.Sub(b[j], a[j])))
			}
			difference := interval.Sub(after[i], before[i])
			c.count(sum != entire && sum != point(0) && difference != entire)
			if _, ok := interval.Intersect(sum, difference); !ok {
				t.Fatalf("%v differs by %v at %v and %v, not by %v", s.F[i], difference, a, b, sum)
			}
		}
	}
	c.check(t)
}

// P10.4: differentiation is linear, derivatives by what does not occur are zero, and
// mixed second derivatives are consistent.

func TestLinearity(t *testing.T) {
	source := rand.New(rand.NewSource(17))
	for i := range 2000 {
		nodes := []int{3, 8, 30, 90}[i%4]
		e, f := randomExpr(source, 1+source.Intn(nodes), 3), randomExpr(source, 1+source.Intn(nodes), 3)
		factor := num(randomInterval(source))
		for _, d := range []func(e []api.Node) []api.Node{func(e []api.Node) []api.Node { return Diff(e, 1) }, TimeDerivative} {
			for _, y := range []struct{ of, from []api.Node }{
				{join(api.Neg, e), join(api.Neg, d(e))},
				{join(api.Add, e, f), join(api.Add, d(e), d(f))},
				{join(api.Sub, e, f), join(api.Sub, d(e), d(f))},
				{join(api.Mul, factor, e), join(api.Mul, factor, d(e))},
				{join(api.Mul, e, factor), join(api.Mul, d(e), factor)},
				{join(api.Sub, join(api.Mul, factor, e), f), join(api.Sub, join(api.Mul, factor, d(e)), d(f))},
			} {
				if got, want := d(y.of), Simplify(y.from); !slices.Equal(got, want) {
					t.Fatalf("the derivative of %v is %v, want %v", y.of, got, want)
				}
			}
		}
	}
}

func TestWhatDoesNotOccur(t *testing.T) {
	source := rand.New(rand.NewSource(18))
	for i := range 5000 {
		e := randomExpr(source, 1+source.Intn([]int{3, 8, 30, 200}[i%4]), 3)
		for k := range 6 {
			absent := !slices.Contains(e, api.Node{Op: api.Var, N: k})
			if got := Diff(e, k); absent && !isConstant(got, 0) {
				t.Fatalf("the derivative of %v by variable %d is %v", e, k, got)
			}
		}
		if got := TimeDerivative(e); !slices.Contains(e, now()[0]) && !isConstant(got, 0) {
			t.Fatalf("the derivative of %v by the time is %v", e, got)
		}
	}
}

func TestMixedDerivatives(t *testing.T) {
	source := rand.New(rand.NewSource(19))
	var c census
	for i := range 12000 {
		e := randomExpr(source, 1+source.Intn(12), 2)
		x, time := randomBox(source, 2), randomInterval(source)
		if i%2 == 0 {
			x = pointsOf(source, x)
		}
		p := randomSample(source, e, x, time)
		p.x[0].first = integer(1)
		twoWays := [][]api.Node{Diff(Diff(e, 0), 1), Diff(Diff(e, 1), 0)}
		if i%4 < 2 {
			p.x[1].second = integer(1)
		} else {
			p.time.second = integer(1)
			twoWays = [][]api.Node{TimeDerivative(Diff(e, 0)), Diff(TimeDerivative(e), 0)}
		}
		exact, ok := p.at(e)
		if !ok {
			continue
		}
		for _, d := range twoWays {
			values := ode.Eval(d, x, time)
			c.count(values != entire && !isConstant(d, 0))
			if !isIn(exact.both, values) {
				t.Fatalf("%v has the mixed derivative %v with the values %v for %v, %v, but also %s", e, d, values, x, time, exact.both.FloatString(9))
			}
		}
	}
	c.check(t)
}

// P10.5: LieDerivative encloses the rate of change along the solutions.

// TestExactRates differentiates an expression in the direction in which a system
// moves, at points of boxes.
func TestExactRates(t *testing.T) {
	source := rand.New(rand.NewSource(20))
	var c census
	for i := range 12000 {
		s := api.System{Names: names[:2], F: [][]api.Node{randomExpr(source, 1+source.Intn(6), 2), randomExpr(source, 1+source.Intn(6), 2)}}
		g := randomExpr(source, 1+source.Intn(9), 2)
		x, time := randomBox(source, 2), randomInterval(source)
		if i%2 == 0 {
			x = pointsOf(source, x)
		}
		p := randomSample(source, g, x, time)
		var speeds []*big.Rat
		for _, f := range s.F {
			if speed, ok := (sample{p.x, p.time, elements(source, f)}).at(f); ok {
				speeds = append(speeds, speed.value)
			}
		}
		if len(speeds) < len(s.F) {
			continue
		}
		p.time.first = integer(1)
		for k, speed := range speeds {
			p.x[k].first = speed
		}
		exact, ok := p.at(g)
		if !ok {
			continue
		}
		rate := LieDerivative(s, g, x, time)
		c.count(rate != entire && rate != point(0))
		if !isIn(exact.first, rate) {
			t.Fatalf("%v changes at the rate %v along %v for %v, %v, but also at %s", g, rate, s, x, time, exact.first.FloatString(9))
		}
	}
	c.check(t)
}

// TestKnownSolutions is about the mean rate along x = a + t and v = b + t^2, which
// solve x' = 1, v' = 2 t.
func TestKnownSolutions(t *testing.T) {
	source := rand.New(rand.NewSource(21))
	s := systemOf(t, "x'=1\nv'=2*t")
	var c census
	for range 8000 {
		a, b := source.Int63n(8*one)-4*one, source.Int63n(8*one)-4*one
		start := source.Int63n(16) * one / 8
		end := start + (1+source.Int63n(8))*one/8
		g := randomExpr(source, 1+source.Intn(14), 2)
		constants := elements(source, g)
		at := func(time int64) (jet, bool) {
			now := units(time)
			return sample{[]jet{steady(plus(units(a), now)), steady(plus(units(b), times(now, now)))}, steady(now), constants}.at(g)
		}
		before, first := at(start)
		after, second := at(end)
		if !first || !second {
			continue
		}
		x := []api.Interval{between(a+start, a+end), between(b+start*start/one, b+end*end/one)}
		rate := LieDerivative(s, g, x, between(start, end))
		c.count(rate != entire && rate != point(0))
		if mean := over(minus(after.value, before.value), units(end-start)); !isIn(mean, rate) {
			t.Fatalf("%v changes at the mean rate %s from %d to %d for %d, %d, not at %v", g, mean.FloatString(9), start, end, a, b, rate)
		}
	}
	c.check(t)
}

// TestConservedExpressions is about expressions that do not change along solutions.
func TestConservedExpressions(t *testing.T) {
	source := rand.New(rand.NewSource(22))
	for _, y := range []struct{ s, g string }{{"x'=v\nv'=-x", "sqr(x)+sqr(v)"}, {"x'=v\nv'=2", "sqr(v)-4*x"}, {"x'=x\nv'=-v", "x*v"}, {"x'=t\nv'=1", "2*x-sqr(t)"}, {"x'=v*x\nv'=v*v", "x/v"}, {"x'=1\nv'=2*t", "sqr(x-t)+v-sqr(t)"}} {
		s, g := systemOf(t, y.s), parse(t, y.g)
		for range 200 {
			x, time := randomBox(source, 2), randomInterval(source)
			if rate := LieDerivative(s, g, x, time); !interval.Contains(rate, 0) {
				t.Fatalf("%q changes along %q at the rate %v for %v, %v", y.g, y.s, rate, x, time)
			}
		}
	}
}
