package series

import (
	"slices"
	"testing"

	"armillary/api"
	"armillary/interval"
	"armillary/taylor"
)

// Tests of P9.1: the functions for Taylor models return what I3 says.

// term returns a term with the given coefficient and the first exponents.
func term(c int64, e ...uint8) api.Term {
	t := api.Term{C: c}
	copy(t.E[:], e)
	return t
}

// model returns a model with the given remainder and terms.
func model(r api.Interval, l ...api.Term) api.TaylorModel { return api.TaylorModel{P: l, R: r} }

// exact returns a model without a remainder.
func exact(l ...api.Term) api.TaylorModel { return model(api.Interval{}, l...) }

func unbounded() api.TaylorModel { return model(entire) }

// constants returns the models of intervals.
func constants(l ...api.Interval) []api.TaylorModel {
	var m []api.TaylorModel
	for _, a := range l {
		m = append(m, taylor.Const(a))
	}
	return m
}

func equalModels(a, b api.TaylorModel) bool { return a.R == b.R && slices.Equal(a.P, b.P) }

func equalModelSeries(a, b [][]api.TaylorModel) bool {
	return slices.EqualFunc(a, b, func(s, u []api.TaylorModel) bool { return slices.EqualFunc(s, u, equalModels) })
}

func checkModels(t *testing.T, call string, got [][]api.TaylorModel, want ...[]api.TaylorModel) {
	t.Helper()
	if !equalModelSeries(got, want) {
		t.Errorf("%s = %v, want %v", call, got, want)
	}
}

// divided returns a model divided by n.
func divided(a api.TaylorModel, n int64) api.TaylorModel {
	return taylor.MulInterval(a, interval.MulRatio(point(one), 1, n))
}

// solutionModels returns the coefficients of a state variable, given the first and
// those of its derivative.
func solutionModels(x api.TaylorModel, derivative []api.TaylorModel) []api.TaylorModel {
	l := []api.TaylorModel{x}
	for k, a := range derivative {
		l = append(l, divided(a, int64(k+1)))
	}
	return l
}

func TestModelsOfNumbers(t *testing.T) {
	for _, x := range append(numeric(), ordered()...) {
		c := compiled(t, "x'="+x.f)
		for deg := range api.MaxDegree + 1 {
			got := ModelCoefficients(c, constants(x.x), api.Expansion{T: x.start, Order: len(x.want), Deg: deg})
			checkModels(t, "ModelCoefficients for "+x.f, got, solutionModels(taylor.Const(x.x), constants(x.want...)))
		}
	}
}

func TestOperationsOnModels(t *testing.T) {
	// 1 + s0, 3 + s0, s0, s0^6, and a model without a polynomial.
	x, far := exact(term(one), term(one, 1)), exact(term(3*one), term(one, 1))
	s, top, rest := exact(term(one, 1)), exact(term(one, 6)), model(whole(-1, 1))
	nothing := exact()
	for _, y := range []struct {
		f     string
		x     api.TaylorModel
		start api.Interval
		deg   int
		want  []api.TaylorModel
	}{
		// Constants and the time have no variables.
		{"[1, 3]", x, point(0), 6, []api.TaylorModel{model(whole(-1, 1), term(2*one)), nothing, nothing, nothing}},
		{"[0, 3]", x, point(0), 0, []api.TaylorModel{model(between(-3*one/2, 3*one/2), term(3*one/2)), nothing}},
		{"all", x, point(0), 6, []api.TaylorModel{unbounded(), nothing, nothing}},
		{"t", x, whole(1, 3), 6, []api.TaylorModel{model(whole(-1, 1), term(2*one)), exact(term(one)), nothing, nothing}},
		{"t", x, whole(-2, 2), 0, []api.TaylorModel{model(whole(-2, 2)), exact(term(one)), nothing}},
		{"t", x, entire, 6, []api.TaylorModel{unbounded(), exact(term(one)), nothing}},
		// State variables, and operations on the coefficients with one index: their
		// terms have any degree.
		{"x", x, point(0), 0, []api.TaylorModel{x, x, exact(term(one/2), term(one/2, 1))}},
		{"x", top, point(0), 0, []api.TaylorModel{top, top, exact(term(one/2, 6))}},
		{"x", rest, point(0), 6, []api.TaylorModel{rest, rest, model(between(-one/2, one/2))}},
		{"x", nothing, point(0), 6, []api.TaylorModel{nothing, nothing, nothing}},
		{"x", unbounded(), point(0), 6, []api.TaylorModel{unbounded(), unbounded(), unbounded()}},
		{"-x", x, point(0), 0, []api.TaylorModel{exact(term(-one), term(-one, 1)), x}},
		{"-x", model(whole(1, 2), term(one, 6)), point(0), 0, []api.TaylorModel{model(whole(-2, -1), term(-one, 6)), model(whole(1, 2), term(one, 6))}},
		{"x+[1, 3]", top, point(0), 0, []api.TaylorModel{model(whole(-1, 1), term(2*one), term(one, 6)), model(whole(-1, 1), term(2*one), term(one, 6))}},
		{"[1, 3]-x", top, point(0), 0, []api.TaylorModel{model(whole(-1, 1), term(2*one), term(-one, 6)), model(whole(-1, 1), term(-2*one), term(one, 6))}},
		{"x-x", x, point(0), 0, []api.TaylorModel{nothing, nothing}},
		{"x-x", rest, point(0), 0, []api.TaylorModel{model(whole(-2, 2)), model(whole(-4, 4))}},
		// Products, with the terms of the degree.
		{"x*x", x, point(0), 6, []api.TaylorModel{exact(term(one), term(2*one, 1), term(one, 2)), exact(term(2*one), term(6*one, 1), term(6*one, 2), term(2*one, 3))}},
		{"x*x", x, point(0), 2, []api.TaylorModel{exact(term(one), term(2*one, 1), term(one, 2)), model(whole(-2, 2), term(2*one), term(6*one, 1), term(6*one, 2))}},
		{"x*x", x, point(0), 1, []api.TaylorModel{model(whole(0, 1), term(one), term(2*one, 1)), model(whole(0, 8), term(2*one), term(6*one, 1))}},
		{"x*x", x, point(0), 0, []api.TaylorModel{model(whole(-2, 3), term(one)), model(whole(-10, 14), term(2*one))}},
		{"x*x", top, point(0), 6, []api.TaylorModel{model(whole(0, 1)), model(whole(0, 2))}},
		{"t*x", s, whole(1, 1), 6, []api.TaylorModel{s, exact(term(2*one, 1)), exact(term(2*one, 1))}},
		{"x*t", s, whole(1, 1), 0, []api.TaylorModel{rest, model(whole(-2, 2)), model(whole(-2, 2))}},
		{"x*all", s, point(0), 6, []api.TaylorModel{unbounded(), unbounded()}},
		// A square of models is a product.
		{"sqr(x)", x, point(0), 6, []api.TaylorModel{exact(term(one), term(2*one, 1), term(one, 2)), exact(term(2*one), term(6*one, 1), term(6*one, 2), term(2*one, 3))}},
		{"sqr(x)", s, point(0), 2, []api.TaylorModel{exact(term(one, 2)), model(whole(-2, 2))}},
		{"sqr(x)", s, point(0), 0, []api.TaylorModel{model(whole(0, 1)), model(whole(-2, 2))}},
		{"sqr(x)", rest, point(0), 6, []api.TaylorModel{rest, model(whole(-2, 2))}},
		{"sqr(x)", unbounded(), point(0), 6, []api.TaylorModel{unbounded(), unbounded()}},
		// Quotients and square roots are constants, from the ranges.
		{"1/x", far, point(0), 6, constants(between(one/4, one/2), between(-one/8, -one/64))},
		{"x/x", far, point(0), 6, constants(between(one/2, 2*one), between(-7*one/4, 7*one/8))},
		{"x/x", exact(term(3 * one)), point(0), 0, constants(point(one), point(0), point(0))},
		{"3/(x-x)", far, point(0), 6, []api.TaylorModel{unbounded(), unbounded()}},
		{"1/x", x, point(0), 6, []api.TaylorModel{unbounded(), unbounded(), unbounded()}},
		{"1/x", unbounded(), point(0), 6, []api.TaylorModel{unbounded(), unbounded()}},
		{"sqrt(x)", exact(term(5*one), term(4*one, 1)), point(0), 6, constants(whole(1, 3), between(10922, 98304))},
		{"sqrt(x)", model(whole(-1, 4), term(5*one)), point(0), 6, constants(whole(2, 3), between(21845, 49152))},
		{"sqrt(x)", exact(term(4 * one)), point(0), 0, constants(whole(2, 2), ratio(1, 2), point(0), point(0))},
		{"sqrt(x)", exact(term(2*one), term(2*one, 1)), point(0), 6, []api.TaylorModel{model(whole(-1, 1), term(one)), unbounded(), unbounded()}},
		{"sqrt(x)", exact(term(2*one), term(2*one+1, 1)), point(0), 6, []api.TaylorModel{unbounded(), unbounded()}},
		{"sqrt(x)", exact(term(-one)), point(0), 6, []api.TaylorModel{unbounded(), unbounded()}},
		{"sqrt(x)", unbounded(), point(0), 6, []api.TaylorModel{unbounded(), unbounded()}},
	} {
		c := compiled(t, "x'="+y.f)
		got := ModelCoefficients(c, []api.TaylorModel{y.x}, api.Expansion{T: y.start, Order: len(y.want), Deg: y.deg})
		checkModels(t, "ModelCoefficients for "+y.f, got, solutionModels(y.x, y.want))
	}
}

// TestModelsOfSeveralVariables is about systems whose state variables are different
// models.
func TestModelsOfSeveralVariables(t *testing.T) {
	// 1 + s0, 2 + s1, and 3 with a remainder.
	x, y, z := exact(term(one), term(one, 1)), exact(term(2*one), term(one, 0, 1)), model(whole(-1, 1), term(3*one))
	sum := exact(term(3*one), term(one, 0, 1), term(one, 1))
	product := exact(term(2*one), term(one, 0, 1), term(2*one, 1), term(one, 1, 1))
	for _, u := range []struct {
		text string
		x    []api.TaylorModel
		deg  int
		want [][]api.TaylorModel
	}{
		{"x'=y\ny'=x", []api.TaylorModel{x, y}, 0, [][]api.TaylorModel{{x, y, exact(term(one/2), term(one/2, 1))}, {y, x, exact(term(one), term(one/2, 0, 1))}}},
		{"x'=x+y\ny'=x-y", []api.TaylorModel{x, y}, 0, [][]api.TaylorModel{{x, sum, x}, {y, exact(term(-one), term(-one, 0, 1), term(one, 1)), y}}},
		{"x'=x*y\ny'=0", []api.TaylorModel{x, y}, 2, [][]api.TaylorModel{
			{x, product, model(between(-one/2, one/2), term(2*one), term(2*one, 0, 1), term(one/2, 0, 2), term(2*one, 1), term(2*one, 1, 1))},
			{y, exact(), exact()},
		}},
		{"x'=z*y\ny'=z\nz'=z*0", []api.TaylorModel{x, y, z}, 6, [][]api.TaylorModel{
			{x, model(whole(-3, 3), term(6*one), term(3*one, 0, 1)), model(between(-7*one/2, 7*one/2), term(9*one/2))},
			{y, z, exact()},
			{z, exact(), exact()},
		}},
		// Several outputs with one index.
		{"x'=x*y\ny'=x*y\nz'=x*y", []api.TaylorModel{x, y, z}, 6, [][]api.TaylorModel{{x, product}, {y, product}, {z, product}}},
		// Six coordinates.
		{"a'=f\nb'=e\nc'=d\nd'=c\ne'=b\nf'=a*a", []api.TaylorModel{x, y, z, exact(), unbounded(), exact(term(one, 6))}, 1, [][]api.TaylorModel{
			{x, exact(term(one, 6))}, {y, unbounded()}, {z, exact()}, {exact(), z}, {unbounded(), y}, {exact(term(one, 6)), model(whole(0, 1), term(one), term(2*one, 1))},
		}},
	} {
		order := len(u.want[0]) - 1
		got := ModelCoefficients(compiled(t, u.text), u.x, api.Expansion{T: point(0), Order: order, Deg: u.deg})
		checkModels(t, "ModelCoefficients for "+u.text, got, u.want...)
		for i, a := range ModelCoefficients(compiled(t, u.text), u.x, api.Expansion{T: entire, Deg: u.deg}) {
			checkModels(t, "ModelCoefficients for "+u.text, [][]api.TaylorModel{a}, u.x[i:i+1])
		}
	}
}

// TestModelDivisionByIndex is about products with a rounded part, whose remainders
// are not those of a quotient.
func TestModelDivisionByIndex(t *testing.T) {
	for _, x := range []struct {
		a    api.TaylorModel
		n    int
		want api.TaylorModel
	}{
		{exact(term(3 * one)), 1, exact(term(3 * one))},
		{exact(term(3 * one)), 2, exact(term(3 * one / 2))},
		{exact(term(3 * one)), 3, model(between(0, 3), term(one-1))},
		{exact(term(one)), 3, model(between(0, 1), term(21845))},
		{exact(term(-one)), 3, model(between(-1, 0), term(-21845))},
		{exact(term(one, 1)), 3, model(between(-1, 1), term(21845, 1))},
		{exact(term(one, 0, 2)), 3, model(between(0, 1), term(21845, 0, 2))},
		{exact(term(1)), 3, model(between(0, 2))},
		{exact(term(1)), 2, model(between(0, 1))},
		{exact(term(1, 6)), 1, exact(term(1, 6))},
		{exact(term(one, 6)), 8, exact(term(one/8, 6))},
		{model(whole(-8, 16)), 8, model(whole(-1, 2))},
		{model(between(-1, 1)), 4, model(between(-1, 1))},
		{model(between(1, 2), term(one)), 7, model(between(0, 3), term(9362))},
		// The polynomial takes any value, even if no number is out of range.
		{exact(term(largest), term(1, 1)), 1, unbounded()},
		{exact(term(largest), term(1, 1)), 2, unbounded()},
		{exact(term(largest-1), term(1, 1)), 1, exact(term(largest-1), term(1, 1))},
		{unbounded(), 1, unbounded()},
		{unbounded(), 5, unbounded()},
	} {
		// The derivative is the second variable times the time to a power, from 0 on.
		c := tapeOf([]int{0, 1, 2}, do(api.Var, 1), value(point(0)), value(point(0)), do(api.Time))
		for range x.n - 1 {
			c.L = append(c.L, do(api.Mul, c.Out[0], 3))
			c.Out[0] = len(c.L) - 1
		}
		got := ModelCoefficients(c, []api.TaylorModel{exact(), x.a, exact()}, api.Expansion{T: point(0), Order: x.n, Deg: 6})
		if x.n > 1 && taylor.Range(x.a) == entire {
			x.want = unbounded()
		}
		if len(got) != 3 || len(got[0]) != x.n+1 || !equalModels(got[0][x.n], x.want) {
			t.Errorf("%v becomes %v at index %d, want %v", x.a, got, x.n, x.want)
		}
	}
}

// TestOrderOfFactors is about products that are unbounded, or are not, only because
// of the order of the factors, and of the sums of their remainders.
func TestOrderOfFactors(t *testing.T) {
	const half = 1 << 30
	a, b := model(point(-one), term(half, 4)), model(point(one), term(one), term(one, 4))
	bounded := model(between(-3*one, 2*half-2*one), term(half, 4))
	g := api.Expansion{Order: 1, Deg: 4}
	got := ModelCoefficients(compiled(t, "x'=x*y\ny'=y*x"), []api.TaylorModel{a, b}, g)
	checkModels(t, "ModelCoefficients", got, []api.TaylorModel{a, unbounded()}, []api.TaylorModel{b, bounded})
	got = ModelCoefficients(compiled(t, "x'=y*x\ny'=x*y"), []api.TaylorModel{a, b}, g)
	checkModels(t, "ModelCoefficients", got, []api.TaylorModel{a, bounded}, []api.TaylorModel{b, unbounded()})
	// As coefficients 0 and 1 of the factors, whose others are 0.
	g.Order = 2
	models := []api.TaylorModel{exact(), a, b}
	got = ModelCoefficients(compiled(t, "x'=y*(t*z)\ny'=0\nz'=0"), models, g)
	checkModels(t, "ModelCoefficients", got[:1], []api.TaylorModel{exact(), exact(), unbounded()})
	got = ModelCoefficients(compiled(t, "x'=z*(t*y)\ny'=0\nz'=0"), models, g)
	checkModels(t, "ModelCoefficients", got[:1], []api.TaylorModel{exact(), exact(), divided(bounded, 2)})
	got = ModelCoefficients(compiled(t, "x'=(t*y)*z\ny'=0\nz'=0"), models, g)
	checkModels(t, "ModelCoefficients", got[:1], []api.TaylorModel{exact(), exact(), unbounded()})
	got = ModelCoefficients(compiled(t, "x'=(t*z)*y\ny'=0\nz'=0"), models, g)
	checkModels(t, "ModelCoefficients", got[:1], []api.TaylorModel{exact(), exact(), divided(bounded, 2)})
	// Horner's rule multiplies a coefficient by the time, not the time by it.
	e, h := model(point(-100), term(half-1), term(half, 2)), between(one/2+2, 5*one/2+1)
	if taylor.Mul(taylor.Const(h), e, 6).R == entire {
		t.Error("the product in the other order is unbounded")
	}
	checkModels(t, "EvalModels", [][]api.TaylorModel{EvalModels([][]api.TaylorModel{{exact(), e}}, h)}, []api.TaylorModel{unbounded()})
}

func TestEvalModels(t *testing.T) {
	x, y, rest := exact(term(one), term(one, 1)), model(whole(-1, 1), term(2*one)), model(whole(1, 2))
	top := exact(term(one, 1, 1, 1, 1, 1, 1))
	wide := exact(term(largest), term(1, 1))
	for _, z := range []struct {
		l    []api.TaylorModel
		h    api.Interval
		want api.TaylorModel
	}{
		// One coefficient, at any time.
		{[]api.TaylorModel{x}, point(0), x},
		{[]api.TaylorModel{y}, entire, y},
		{[]api.TaylorModel{wide}, whole(1, 2), wide},
		{[]api.TaylorModel{exact()}, whole(1, 2), exact()},
		{[]api.TaylorModel{unbounded()}, point(0), unbounded()},
		// Several, from the last to the first.
		{[]api.TaylorModel{x, y}, whole(2, 2), model(whole(-2, 2), term(5*one), term(one, 1))},
		{[]api.TaylorModel{y, x}, whole(2, 2), model(whole(-1, 1), term(4*one), term(2*one, 1))},
		{[]api.TaylorModel{x, y, rest}, whole(3, 3), model(whole(6, 21), term(7*one), term(one, 1))},
		{[]api.TaylorModel{rest, rest}, whole(-1, -1), model(whole(-1, 1))},
		{[]api.TaylorModel{exact(), exact(term(one, 0, 1))}, whole(0, 1), model(between(-one/2, one/2), term(one/2, 0, 1))},
		{[]api.TaylorModel{x, exact(), exact(term(4*one, 2))}, whole(0, 2), model(whole(-12, 12), term(one), term(one, 1), term(4*one, 2))},
		// Rounded at each step.
		{[]api.TaylorModel{exact(), exact(term(1))}, ratio(1, 2), model(between(0, 1))},
		{[]api.TaylorModel{exact(), exact(), exact(term(3, 1))}, ratio(1, 2), model(between(-2, 2))},
		// Terms of any degree stay.
		{[]api.TaylorModel{top, top}, ratio(1, 2), exact(term(3*one/2, 1, 1, 1, 1, 1, 1))},
		// The time 0.
		{[]api.TaylorModel{x, y}, point(0), x},
		{[]api.TaylorModel{y, exact(term(largest, 1)), top}, point(0), y},
		{[]api.TaylorModel{wide, x}, point(0), wide},
		{[]api.TaylorModel{x, wide}, point(0), unbounded()},
		{[]api.TaylorModel{x, unbounded()}, point(0), unbounded()},
		{[]api.TaylorModel{unbounded(), x}, point(0), unbounded()},
		// Any time, and values out of range.
		{[]api.TaylorModel{x, exact()}, entire, unbounded()},
		{[]api.TaylorModel{exact(term(-20000 * one)), exact(term(20000 * one))}, whole(2, 2), unbounded()},
		{[]api.TaylorModel{exact(term(-20000 * one)), exact(term(10000 * one))}, whole(2, 2), exact()},
	} {
		checkModels(t, "EvalModels", [][]api.TaylorModel{EvalModels([][]api.TaylorModel{z.l}, z.h)}, []api.TaylorModel{z.want})
		got := EvalModels([][]api.TaylorModel{z.l, {x}, z.l, {rest}, z.l, z.l}, z.h)
		checkModels(t, "EvalModels", [][]api.TaylorModel{got}, []api.TaylorModel{z.want, x, z.want, rest, z.want, z.want})
	}
	if got := EvalModels(nil, whole(1, 1)); len(got) != 0 {
		t.Errorf("EvalModels of no series = %v", got)
	}
}

// results are those of all functions for one tape.
type results struct {
	s [][]api.Interval
	m [][]api.TaylorModel
	u []api.Interval
	v []api.TaylorModel
}

func call(c api.Tape, x []api.Interval, m []api.TaylorModel, order int) results {
	s, n := Coefficients(c, x, whole(1, 2), order), ModelCoefficients(c, m, api.Expansion{T: whole(1, 2), Order: order, Deg: 4})
	return results{s, n, Eval(s, ratio(1, 8)), EvalModels(n, ratio(1, 8))}
}

// TestResultsDependOnArgumentsOnly calls the functions again after other calls: P2 of the document.
func TestResultsDependOnArgumentsOnly(t *testing.T) {
	x := []api.Interval{whole(5, 6), whole(3, 4)}
	m := []api.TaylorModel{taylor.Var(0, x[0]), taylor.Var(1, x[1])}
	first := call(every(), x, m, 6)
	call(tapeOf([]int{100}, doublings(399)...), x[:1], m[:1], 8)
	call(every(), []api.Interval{entire, point(0)}, []api.TaylorModel{unbounded(), exact()}, 3)
	second := call(every(), x, m, 6)
	if !equalSeries(first.s, second.s) || !equalModelSeries(first.m, second.m) || !slices.Equal(first.u, second.u) || !slices.EqualFunc(first.v, second.v, equalModels) {
		t.Errorf("first %v, then %v", first, second)
	}
}

// overwrite changes all elements of a slice, and the room behind them.
func overwrite[T any](l []T, by T) {
	l = l[:cap(l)]
	for i := range l {
		l[i] = by
	}
}

// cloned returns a copy of series that shares no memory with them.
func cloned(l [][]api.TaylorModel) [][]api.TaylorModel {
	var all [][]api.TaylorModel
	for _, s := range l {
		all = append(all, copies(s))
	}
	return all
}

// TestResultsAreNewMemory overwrites the results, with all the room behind them:
// neither the arguments nor the other results may change.
func TestResultsAreNewMemory(t *testing.T) {
	c := compiled(t, "x'=y\ny'=y\nz'=1")
	p := []api.Term{term(one), term(one, 1), term(5), term(6)}[:2]
	m := []api.TaylorModel{{P: p}, {P: p}, {P: p[:1], R: whole(1, 2)}}
	before := cloned([][]api.TaylorModel{m})
	l := ModelCoefficients(c, m, api.Expansion{T: point(0), Order: 3, Deg: 6})
	again := cloned(l)
	for i, s := range l {
		for k := range s {
			overwrite(s[k].P, term(99, 2))
			again[i][k] = api.TaylorModel{P: s[k].P, R: s[k].R}
			checkModels(t, "the series", l, again...)
		}
		overwrite(s, unbounded())
		overwrite(again[i], unbounded())
	}
	for _, h := range []api.Interval{point(0), whole(1, 2)} {
		for _, sequences := range [][][]api.TaylorModel{{m, m}, {m[:1], m[:1], m[1:2]}} {
			values := EvalModels(sequences, h)
			want := slices.Clone(values[1].P)
			overwrite(values[0].P, term(99, 2))
			if !slices.Equal(values[1].P, want) {
				t.Errorf("a value is %v, and was %v", values[1].P, want)
			}
			overwrite(values[1].P, term(99, 2))
			overwrite(values, unbounded())
		}
	}
	checkModels(t, "the models", [][]api.TaylorModel{m}, before...)
	if rest := p[:4][2:]; !slices.Equal(rest, []api.Term{term(5), term(6)}) {
		t.Errorf("the room behind the terms is %v", rest)
	}

	x := append(integers(1, 2, 3), integers(7, 8)...)[:3]
	s := Coefficients(c, x, point(0), 3)
	for i := range s {
		want := slices.Clone(s[(i+1)%3])
		overwrite(s[i], entire)
		if !slices.Equal(s[(i+1)%3], want) {
			t.Errorf("series %d changes with series %d", (i+1)%3, i)
		}
	}
	overwrite(Eval([][]api.Interval{x[:1], x}, point(0)), entire)
	if !slices.Equal(x[:5], integers(1, 2, 3, 7, 8)) {
		t.Errorf("the box is %v", x[:5])
	}
}
