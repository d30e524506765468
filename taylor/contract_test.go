package taylor

import (
	"go/parser"
	"go/token"
	"math"
	"path/filepath"
	"slices"
	"strings"
	"testing"

	"armillary/api"
)

// Tests of P6.1: the functions return what F1 to F4 say.

const (
	one     = api.One
	largest = api.Max - 1
)

var entire = api.Interval{Lo: -api.Max, Hi: api.Max}

func between(lo, hi int64) api.Interval { return api.Interval{Lo: lo, Hi: hi} }

func point(x int64) api.Interval { return between(x, x) }

// term returns a term with the given coefficient and the first exponents.
func term(c int64, e ...uint8) api.Term {
	t := api.Term{C: c}
	copy(t.E[:], e)
	return t
}

// model returns a model with the given remainder and terms.
func model(r api.Interval, l ...api.Term) api.TaylorModel { return api.TaylorModel{P: l, R: r} }

// exact returns a model without a remainder.
func exact(l ...api.Term) api.TaylorModel { return model(api.Interval{}, l...) }

func unbounded() api.TaylorModel { return model(entire) }

// many returns terms of degree 6 or less with equal coefficients, in order.
func many(c int64, count int) []api.Term {
	var l []api.Term
	for i := range uint8(4) {
		for j := range 4 - i {
			for k := range uint8(4) {
				for n := range 4 - k {
					l = append(l, term(c, i, j, k, n))
				}
			}
		}
	}
	return append(l, term(c, 6))[:count]
}

func equal(a, b api.TaylorModel) bool { return a.R == b.R && slices.Equal(a.P, b.P) }

func check(t *testing.T, call string, got, want api.TaylorModel) {
	t.Helper()
	if !equal(got, want) {
		t.Errorf("%s = %v, want %v", call, got, want)
	}
	if !Valid(got) {
		t.Errorf("%s: %v is not valid", call, got)
	}
}

// validModels returns valid models of all kinds.
func validModels() []api.TaylorModel {
	return []api.TaylorModel{
		{}, {P: []api.Term{}}, unbounded(), {P: []api.Term{}, R: entire}, exact(term(1)), exact(term(-largest, 6)),
		model(point(5)), model(between(-largest, largest)), model(point(-largest), term(largest)), model(between(3, 3), term(1, 0, 1), term(1, 1)),
		model(between(-7, 9), many(3, 100)...), model(between(0, largest), term(one), term(-one, 1, 1, 1, 1, 1, 1)),
		exact(term(largest), term(largest, 1)), model(between(-largest, 0), term(one, 2)),
	}
}

// invalidModels returns models of which only the polynomial is not valid, only the
// remainder, or only the two together.
func invalidModels() []api.TaylorModel {
	return []api.TaylorModel{
		exact(term(0)), exact(term(api.Max)), exact(term(-api.Max)), exact(term(1, 7)), exact(term(1, 0, 0, 4, 3)), exact(term(1), term(1)),
		exact(term(1, 1), term(1, 0, 1)), exact(term(1), term(0, 1), term(1, 2)), exact(many(1, 101)...), exact(term(math.MinInt64)),
		model(between(1, 0)), model(between(-api.Max, 0)), model(between(0, api.Max)), model(between(api.Max, api.Max)), model(between(-api.Max, -api.Max)),
		model(between(api.Max, -api.Max)), model(between(-api.Max-1, api.Max)), model(between(-api.Max, api.Max+1)), model(between(math.MinInt64, math.MaxInt64)),
		model(between(1, 0), term(1)), model(between(-api.Max, largest), term(1, 1)), model(between(-largest, api.Max), term(1, 1)),
		model(entire, term(1)), model(entire, term(1, 1)), model(entire, many(-1, 100)...), model(entire, term(0)), model(entire, term(api.Max)),
	}
}

func TestValid(t *testing.T) {
	for _, m := range validModels() {
		if !Valid(m) {
			t.Errorf("Valid(%v) = false", m)
		}
	}
	for _, m := range invalidModels() {
		if Valid(m) {
			t.Errorf("Valid(%v) = true", m)
		}
	}
}

func TestConst(t *testing.T) {
	for _, x := range []struct {
		a    api.Interval
		want api.TaylorModel
	}{
		{entire, unbounded()},
		{point(0), exact()},
		{point(5), exact(term(5))},
		{point(-5), exact(term(-5))},
		{point(largest), exact(term(largest))},
		{point(-largest), exact(term(-largest))},
		{between(one, 3*one), model(between(-one, one), term(2*one))},
		{between(-2, 2), model(between(-2, 2))},
		// The middle is rounded down.
		{between(0, 3), model(between(-1, 2), term(1))},
		{between(0, 1), model(between(0, 1))},
		{between(-1, 0), model(between(0, 1), term(-1))},
		{between(-3, 0), model(between(-1, 2), term(-2))},
		{between(-1, 2), model(between(-1, 2))},
		{between(-largest, largest), model(between(-largest, largest))},
		{between(-largest, largest-1), model(between(1-largest, largest), term(-1))},
		{between(1-largest, largest), model(between(1-largest, largest))},
		{between(0, largest), model(between(-1<<30+1, 1<<30), term(1<<30-1))},
		{between(largest-1, largest), model(between(0, 1), term(largest-1))},
		{between(-largest, 1-largest), model(between(0, 1), term(-largest))},
	} {
		check(t, "Const", Const(x.a), x.want)
	}
}

func TestVar(t *testing.T) {
	for _, x := range []struct {
		i    int
		a    api.Interval
		want api.TaylorModel
	}{
		{0, entire, unbounded()},
		{5, entire, unbounded()},
		{0, between(one, 3*one), exact(term(2*one), term(one, 1))},
		{1, between(-one, one), exact(term(one, 0, 1))},
		{2, between(-5, 1), exact(term(-2), term(3, 0, 0, 1))},
		{3, between(0, 10), exact(term(5), term(5, 0, 0, 0, 1))},
		{4, between(0, 10), exact(term(5), term(5, 0, 0, 0, 0, 1))},
		{5, between(0, 10), exact(term(5), term(5, 0, 0, 0, 0, 0, 1))},
		// Points.
		{0, point(0), exact()},
		{0, point(7), exact(term(7))},
		{5, point(-largest), exact(term(-largest))},
		// The middle is rounded down.
		{0, between(0, 1), exact(term(1, 1))},
		{0, between(-1, 0), exact(term(-1), term(1, 1))},
		{5, between(-3, 0), exact(term(-2), term(2, 0, 0, 0, 0, 0, 1))},
		{0, between(0, 3), exact(term(1), term(2, 1))},
		// The widest intervals.
		{0, between(-largest, largest), exact(term(largest, 1))},
		{1, between(-largest, largest-1), exact(term(-1), term(largest, 0, 1))},
		{2, between(1-largest, largest), exact(term(largest, 0, 0, 1))},
		{3, between(0, largest), exact(term(1<<30-1), term(1<<30, 0, 0, 0, 1))},
		{4, between(-largest, 0), exact(term(-1<<30), term(1<<30, 0, 0, 0, 0, 1))},
		{5, between(largest-1, largest), exact(term(largest-1), term(1, 0, 0, 0, 0, 0, 1))},
	} {
		check(t, "Var", Var(x.i, x.a), x.want)
	}
}

func TestAdd(t *testing.T) {
	for _, x := range []struct{ a, b, want api.TaylorModel }{
		{exact(), exact(), exact()},
		{exact(), model(between(-3, 5), term(7, 1)), model(between(-3, 5), term(7, 1))},
		{exact(term(2), term(1, 1)), exact(term(3, 0, 1)), exact(term(2), term(3, 0, 1), term(1, 1))},
		{model(between(-1, 2), term(5), term(3, 1)), model(between(-10, 20), term(7), term(-3, 1)), model(between(-11, 22), term(12))},
		{model(point(4), term(5)), model(point(-4), term(-5)), exact()},
		// The remainder is just bounded, and just not.
		{model(between(-largest, 0), term(1)), model(between(0, largest), term(2)), model(between(-largest, largest), term(3))},
		{model(between(1-largest, 0), term(1)), model(between(-1, 0), term(2)), model(between(-largest, 0), term(3))},
		{model(between(-largest, 0), term(1)), model(between(-1, 0), term(2)), unbounded()},
		{model(between(0, largest), term(1)), model(between(0, 1), term(2)), unbounded()},
		{model(between(0, largest)), model(between(0, 1)), unbounded()},
		// The polynomial is just valid, and just not.
		{exact(term(largest-1, 1)), exact(term(1, 1)), exact(term(largest, 1))},
		{exact(term(largest, 1)), exact(term(1, 1)), unbounded()},
		{exact(term(7), term(-largest, 1)), exact(term(-1, 1)), unbounded()},
		{model(between(-3, 5), many(1, 100)...), exact(term(2)), model(between(-3, 5), append([]api.Term{term(3)}, many(1, 100)[1:]...)...)},
		{model(between(-3, 5), many(1, 100)...), exact(term(2, 6)), unbounded()},
		// The other summand is unbounded.
		{unbounded(), unbounded(), unbounded()},
		{unbounded(), exact(), unbounded()},
		{unbounded(), exact(term(5), term(1, 1)), unbounded()},
		{unbounded(), model(between(-1, 2), term(5)), unbounded()},
	} {
		check(t, "a sum", Add(x.a, x.b), x.want)
		check(t, "a sum", Add(x.b, x.a), x.want)
	}
}

func TestNeg(t *testing.T) {
	for _, x := range [][2]api.TaylorModel{
		{exact(), exact()},
		{unbounded(), unbounded()},
		{model(between(-3, 5)), model(between(-5, 3))},
		{model(between(-3, 5), term(7), term(-8, 0, 1), term(9, 2)), model(between(-5, 3), term(-7), term(8, 0, 1), term(-9, 2))},
		{model(between(-largest, 1), term(largest), term(-largest, 1)), model(between(-1, largest), term(-largest), term(largest, 1))},
		{model(point(4), many(3, 100)...), model(point(-4), many(-3, 100)...)},
	} {
		check(t, "a negative", Neg(x[0]), x[1])
		check(t, "a negative", Neg(x[1]), x[0])
	}
}

func TestSub(t *testing.T) {
	x := model(between(-1, 3), term(5), term(2, 1))
	for _, y := range []struct{ a, b, want api.TaylorModel }{
		{exact(), exact(), exact()},
		{x, exact(), x},
		{exact(), x, model(between(-3, 1), term(-5), term(-2, 1))},
		// Only the polynomials cancel.
		{x, x, model(between(-4, 4))},
		{x, model(between(10, 20), term(5), term(-2, 1), term(7, 2)), model(between(-21, -7), term(4, 1), term(-7, 2))},
		{model(between(0, largest), term(1)), model(between(0, largest), term(2)), model(between(-largest, largest), term(-1))},
		{model(between(0, largest), term(1)), model(between(-1, 0), term(2)), unbounded()},
		{model(between(-largest, 0), term(1)), model(between(0, 1), term(2)), unbounded()},
		{model(between(-largest, 0), term(1)), model(between(-1, 0), term(2)), model(between(-largest, 1), term(-1))},
		{exact(term(largest, 1)), exact(term(-1, 1)), unbounded()},
		{exact(term(largest, 1)), exact(term(1, 1)), exact(term(largest-1, 1))},
		{x, unbounded(), unbounded()},
		{unbounded(), x, unbounded()},
		{unbounded(), unbounded(), unbounded()},
	} {
		check(t, "a difference", Sub(y.a, y.b), y.want)
	}
}

func TestMul(t *testing.T) {
	x, y := exact(term(2*one), term(one, 1)), exact(term(one, 0, 1))
	c := model(between(-one, one), term(2*one))
	for _, z := range []struct {
		a, b api.TaylorModel
		deg  int
		want api.TaylorModel
	}{
		{exact(), exact(), 0, exact()},
		{exact(), model(between(-3, 5), term(7, 1)), 6, exact()},
		{x, x, 6, exact(term(4*one), term(4*one, 1), term(one, 2))},
		{x, x, 2, exact(term(4*one), term(4*one, 1), term(one, 2))},
		{x, x, 1, model(between(0, one), term(4*one), term(4*one, 1))},
		{x, x, 0, model(between(-4*one, 5*one), term(4*one))},
		{x, y, 2, exact(term(2*one, 0, 1), term(one, 1, 1))},
		{x, y, 1, model(between(-one, one), term(2*one, 0, 1))},
		{x, y, 0, model(between(-3*one, 3*one))},
		// Remainders of the factors.
		{c, x, 3, model(between(-3*one, 3*one), term(4*one), term(2*one, 1))},
		{c, c, 3, model(between(-5*one, 5*one), term(4*one))},
		{model(point(one), term(2*one)), model(point(3*one), term(5*one)), 6, model(point((6+5+3)*one), term(10*one))},
		{model(between(0, one)), model(between(-one, 2*one)), 6, model(between(-one, 2*one))},
		{model(between(0, one), term(2*one, 2)), model(between(-one, 3*one), term(5*one)), 6, model(between(-(2+0+1)*one, (6+5+3)*one), term(10*one, 2))},
		{model(between(0, one), term(2*one, 2)), model(between(-one, 3*one), term(5*one)), 1, model(between(-(2+0+1)*one, (10+6+5+3)*one))},
		{model(between(0, one), term(2*one, 1)), model(between(-one, 3*one), term(5*one)), 0, model(between(-(10+6+0+1)*one, (10+6+5+3)*one))},
		// All four remainders are rounded outward.
		{exact(term(3, 1)), exact(term(one/2, 1)), 6, model(between(0, 1), term(1, 2))},
		{model(point(1), term(1)), model(point(1), term(1)), 6, model(between(0, 4))},
		{model(point(1), term(1, 1)), model(point(1), term(1, 1)), 6, model(between(-2, 4))},
		{model(point(-1), term(-3)), model(point(1), term(one/2)), 6, model(between(-1-1-1, 1), term(-2))},
		// The polynomial is just valid, and just not.
		{exact(term(1 << 30)), exact(term(2*one - 1)), 6, exact(term(1<<31 - 1<<14))},
		{exact(term(1 << 30)), exact(term(2 * one)), 6, unbounded()},
		{exact(term(1<<30, 4)), exact(term(2*one, 4)), 6, unbounded()},
		{exact(many(one, 100)...), exact(term(one)), 6, exact(many(one, 100)...)},
		{exact(many(one, 100)...), exact(term(one), term(one, 6)), 6, unbounded()},
		// The remainder is just bounded, and just not.
		{model(between(0, 1<<30)), model(between(-one, 2*one-1)), 6, model(between(-1<<30, 1<<31-1<<14))},
		{model(between(0, 1<<30)), model(between(-one, 2*one)), 6, unbounded()},
		{model(between(0, largest-1), term(one)), model(between(0, 1), term(one)), 0, unbounded()},
		{model(between(0, largest-65537), term(one)), model(between(0, 1), term(one)), 0, model(between(0, largest-65537+1+32767), term(one))},
		{exact(term(largest, 1)), exact(term(one, 1)), 1, model(between(0, largest))},
		{exact(term(largest, 1)), exact(term(one, 1), term(one, 2)), 1, unbounded()},
		// A polynomial of an entire range makes a product with a remainder
		// unbounded, be it the remainder 0.
		{exact(term(largest), term(1, 1)), exact(term(one)), 6, unbounded()},
		{exact(term(largest-1), term(1, 1)), exact(term(one)), 6, exact(term(largest-1), term(1, 1))},
		{exact(term(largest), term(1, 1)), exact(), 6, unbounded()},
		{exact(term(-largest), term(-1, 2)), exact(), 0, unbounded()},
		// A factor is unbounded.
		{unbounded(), unbounded(), 6, unbounded()},
		{unbounded(), exact(), 6, unbounded()},
		{unbounded(), x, 0, unbounded()},
		{unbounded(), c, 6, unbounded()},
		{unbounded(), model(between(-3, 5)), 3, unbounded()},
	} {
		check(t, "a product", Mul(z.a, z.b, z.deg), z.want)
		check(t, "a product", Mul(z.b, z.a, z.deg), z.want)
	}
}

// TestMulAddsFromLeftToRight is about products that are unbounded, or are not, only
// because the remainders are added in the order of F3.
func TestMulAddsFromLeftToRight(t *testing.T) {
	const half = 1 << 30
	a := model(point(-one), term(half, 4))
	b := model(point(one), term(one), term(one, 4))
	// From 0 to half, from 0 to half, from -2 to -1, and -1.
	check(t, "a product", Mul(a, b, 4), unbounded())
	// From 0 to half, from -2 to -1, from 0 to half, and -1.
	check(t, "a product", Mul(b, a, 4), model(between(-3*one, 2*half-2*one), term(half, 4)))

	c := model(point(half/2), term(half, 4))
	d := model(point(-one), term(one), term(one, 4))
	// From 0 to half, from -half to 0, from half / 2 to half, and -half / 2.
	check(t, "a product", Mul(c, d, 4), unbounded())
	c.R = point(half/2 - 1)
	check(t, "a product", Mul(c, d, 4), model(between(-half, half+half/2-1), term(half, 4)))
	// From half / 2 - 1 to half - 2 comes before from -half to 0.
	check(t, "a product", Mul(d, c, 4), model(between(-half, half+half/2-1), term(half, 4)))

	e := model(point(-100), term(half-1), term(half, 2))
	f := between(one/2+2, 5*one/2+1)
	// From 0 to 1, and to largest, come before less than 0.
	check(t, "a multiple", MulInterval(e, f), unbounded())
	if m := Mul(Const(f), e, 6); m.R == entire {
		t.Error("the product in the other order is unbounded")
	}
}

func TestMulInterval(t *testing.T) {
	m := model(between(0, one), term(2*one, 2))
	top := exact(term(6*one, 1, 1, 1, 1, 1, 1))
	for _, x := range []struct {
		a    api.TaylorModel
		c    api.Interval
		want api.TaylorModel
	}{
		{m, point(one), m},
		{m, point(0), exact()},
		{m, point(-one), model(between(-one, 0), term(-2*one, 2))},
		{m, between(4*one, 6*one), model(between(-(2+0+1)*one, (2+5+1)*one), term(10*one, 2))},
		{m, between(0, 1), model(between(0, 3))},
		{exact(), between(-3, 5), exact()},
		{exact(term(one, 1)), between(0, 3), model(between(-2, 2), term(1, 1))},
		{exact(term(one, 1)), between(-3, 0), model(between(-2, 2), term(-2, 1))},
		// Terms of degree 6 stay.
		{top, point(one / 2), exact(term(3*one, 1, 1, 1, 1, 1, 1))},
		{exact(many(2*one, 100)...), point(one / 2), exact(many(one, 100)...)},
		{exact(term(1 << 30)), point(2 * one), unbounded()},
		{model(between(0, 1<<30)), point(2 * one), unbounded()},
		{m, entire, unbounded()},
		{exact(), entire, unbounded()},
		{unbounded(), point(0), unbounded()},
		{unbounded(), entire, unbounded()},
	} {
		check(t, "a multiple", MulInterval(x.a, x.c), x.want)
	}
}

func TestTruncate(t *testing.T) {
	m := model(between(-100, 1000), term(5), term(7, 0, 2), term(-9, 2), term(4, 2, 1), term(6, 6))
	for _, x := range []struct {
		a    api.TaylorModel
		deg  int
		want api.TaylorModel
	}{
		{m, 6, m},
		{m, 5, model(between(-100, 1006), m.P[:4]...)},
		{m, 3, model(between(-100, 1006), m.P[:4]...)},
		{m, 2, model(between(-104, 1010), m.P[:3]...)},
		{m, 1, model(between(-113, 1017), m.P[:1]...)},
		{m, 0, model(between(-113, 1017), m.P[:1]...)},
		{exact(), 0, exact()},
		{model(point(3)), 4, model(point(3))},
		{exact(term(5, 1)), 0, model(between(-5, 5))},
		{model(point(-3), term(-5, 2, 2)), 3, model(between(-8, -3))},
		{unbounded(), 0, unbounded()},
		{unbounded(), 6, unbounded()},
		// The remainder is just bounded, and just not.
		{model(between(0, largest-5), term(7), term(5, 2)), 1, model(between(0, largest), term(7))},
		{model(between(0, largest-4), term(7), term(5, 2)), 1, unbounded()},
		{model(between(5-largest, 0), term(7), term(5, 1)), 0, model(between(-largest, 5), term(7))},
		{model(between(4-largest, 0), term(7), term(5, 1)), 0, unbounded()},
		{model(between(4-largest, 0), term(7), term(5, 1)), 1, model(between(4-largest, 0), term(7), term(5, 1))},
		{exact(term(7), term(largest, 2), term(1, 4)), 1, unbounded()},
	} {
		check(t, "a truncated model", Truncate(x.a, x.deg), x.want)
	}
}

func TestRange(t *testing.T) {
	for _, x := range []struct {
		a    api.TaylorModel
		want api.Interval
	}{
		{exact(), point(0)},
		{model(between(-3, 5)), between(-3, 5)},
		{model(between(-3, 5), term(7)), between(4, 12)},
		{model(between(-3, 5), term(7), term(-2, 2)), between(2, 12)},
		{model(between(-3, 5), term(7), term(2, 1)), between(2, 14)},
		{model(between(-3, 5), term(7), term(2, 1), term(2, 2, 2)), between(2, 16)},
		{model(between(0, one), term(4*one), term(4*one, 1)), between(0, 9*one)},
		{model(point(-1), term(largest)), point(largest - 1)},
		{model(between(-1, 1), term(largest)), entire},
		{model(between(-1, 0), term(-largest)), entire},
		{model(between(1, 2), term(-largest)), between(1-largest, 2-largest)},
		// The range of the polynomial is entire already.
		{model(point(-1), term(largest), term(1, 2)), entire},
		{unbounded(), entire},
	} {
		if got := Range(x.a); got != x.want {
			t.Errorf("Range(%v) = %v, want %v", x.a, got, x.want)
		}
	}
}

func TestEval(t *testing.T) {
	whole, zero := slices.Repeat([]api.Interval{between(-one, one)}, 6), make([]api.Interval, 6)
	b := []api.Interval{between(0, one), between(-one, one/2), point(one / 4), point(-one), between(one/2, one), point(one)}
	for _, x := range []struct {
		a    api.TaylorModel
		b    []api.Interval
		want api.Interval
	}{
		{exact(), b, point(0)},
		{model(between(-3, 5)), b, between(-3, 5)},
		{model(between(-3, 5), term(7)), b, between(4, 12)},
		{exact(term(2*one), term(one, 1)), b, between(2*one, 3*one)},
		{model(between(-3, 5), term(2*one), term(one, 1)), b, between(2*one-3, 3*one+5)},
		{model(between(-3, 5), term(2*one), term(one, 1)), zero, between(2*one-3, 2*one+5)},
		{model(between(-3, 5), term(2*one), term(one, 1)), whole, between(one-3, 3*one+5)},
		{exact(term(one, 0, 2)), b, between(0, one)},
		{exact(term(one, 0, 1)), b, between(-one, one/2)},
		{exact(term(8*one, 0, 0, 1)), b, point(2 * one)},
		{exact(term(8*one, 0, 0, 0, 3)), b, point(-8 * one)},
		{exact(term(8*one, 0, 0, 0, 0, 1)), b, between(4*one, 8*one)},
		{exact(term(8*one, 0, 0, 0, 0, 0, 5)), b, point(8 * one)},
		{exact(term(8*one, 1, 0, 1, 1, 1)), b, between(-2*one, 0)},
		{model(point(1), term(largest, 1)), b, entire},
		{model(point(1), term(largest, 1)), zero, point(1)},
		{unbounded(), b, entire},
		{unbounded(), zero, entire},
	} {
		if got := Eval(x.a, x.b); got != x.want {
			t.Errorf("Eval(%v, %v) = %v, want %v", x.a, x.b, got, x.want)
		}
	}
}

// TestExamples is about the examples of the chapter.
func TestExamples(t *testing.T) {
	x := Var(0, between(one, 3*one))
	check(t, "the variable", x, exact(term(2*one), term(one, 1)))
	square := Mul(x, x, 1)
	check(t, "its square", square, model(between(0, one), term(4*one), term(4*one, 1)))
	if r := Range(square); r != between(0, 9*one) {
		t.Errorf("the range of the square is %v", r)
	}
}

// calls calls every function, and returns the results.
func calls(a, b api.TaylorModel, l []api.Interval, n int) (models []api.TaylorModel, ranges []api.Interval, valid bool) {
	return []api.TaylorModel{
		Const(b.R), Var(n, a.R), Add(a, b), Neg(a), Sub(a, b), Mul(a, b, n), MulInterval(a, b.R), Truncate(a, n),
	}, []api.Interval{Range(a), Eval(a, l)}, Valid(a)
}

// TestNothingPanics calls all functions with all kinds of arguments, those for
// which nothing else is specified among them.
func TestNothingPanics(t *testing.T) {
	l := append(invalidModels(), validModels()...)
	boxes := [][]api.Interval{nil, {between(1, 0), entire, between(math.MinInt64, math.MaxInt64)}, slices.Repeat([]api.Interval{entire}, 9)}
	for i, a := range l {
		for j, b := range l {
			calls(a, b, boxes[(i+j)%len(boxes)], []int{0, 6, -1, 7, math.MaxInt, math.MinInt}[(i+2*j)%6])
		}
	}
}

// TestValidModels checks that models are valid whatever valid models they come
// from, and that the polynomial of an unbounded one is empty: P3 of the document.
func TestValidModels(t *testing.T) {
	l := validModels()
	for _, a := range l {
		for _, b := range l {
			for n := range api.MaxDegree {
				models, ranges, _ := calls(a, b, make([]api.Interval, 6), n)
				for i, m := range models {
					if !Valid(m) {
						t.Errorf("call %d for %v, %v, %d: %v is not valid", i, a, b, n, m)
					}
				}
				for i, r := range ranges {
					if !Valid(model(r)) {
						t.Errorf("range %d for %v: %v is not valid", i, a, r)
					}
				}
			}
		}
	}
}

// TestResultsDependOnArgumentsOnly calls the functions again after other calls: P2 of the document.
func TestResultsDependOnArgumentsOnly(t *testing.T) {
	a, b := model(between(-3, 5*one), many(77*one+5, 60)...), model(between(-one, one), many(-3, 9)...)
	l := slices.Repeat([]api.Interval{between(-5, one)}, 6)
	models, ranges, valid := calls(a, b, l, 4)
	calls(b, a, make([]api.Interval, 6), 0)
	calls(unbounded(), exact(term(largest)), l, 6)
	models2, ranges2, valid2 := calls(a, b, l, 4)
	if !slices.EqualFunc(models, models2, equal) || !slices.Equal(ranges, ranges2) || valid != valid2 {
		t.Errorf("first %v, %v, %v, then %v, %v, %v", models, ranges, valid, models2, ranges2, valid2)
	}
}

// TestResultsAreNewMemory overwrites the results, with all the room behind them:
// the arguments must be as before.
func TestResultsAreNewMemory(t *testing.T) {
	for _, x := range [][2][]api.Term{{many(7, 9), many(5, 20)}, {many(7, 9), nil}, {nil, many(7, 9)}, {many(one, 9), {term(one)}}, {many(7, 9), many(-7, 9)}} {
		// With room behind them, the arguments would be changed by appending to them.
		a := model(point(one), slices.Grow(slices.Clone(x[0]), 50)...)
		b := model(point(one), slices.Grow(slices.Clone(x[1]), 50)...)
		l := slices.Repeat([]api.Interval{point(3)}, 6)
		models, _, _ := calls(a, b, l, 6)
		for _, m := range models {
			m.P = m.P[:cap(m.P)]
			for i := range m.P {
				m.P[i] = term(99, 9, 9)
			}
		}
		if !slices.Equal(a.P, x[0]) || !slices.Equal(b.P, x[1]) || !slices.Equal(l, slices.Repeat([]api.Interval{point(3)}, 6)) {
			t.Errorf("%v and %v have changed to %v and %v", x[0], x[1], a.P, b.P)
		}
		for _, s := range append(a.P[len(a.P):cap(a.P)], b.P[len(b.P):cap(b.P)]...) {
			if s != (api.Term{}) {
				t.Errorf("the room behind %v and %v has changed", x[0], x[1])
			}
		}
	}
}

// TestImports checks that the package imports no other layers than interval and poly.
func TestImports(t *testing.T) {
	files, err := filepath.Glob("*.go")
	if err != nil || len(files) == 0 {
		t.Fatal("no files", err)
	}
	allowed := []string{`"armillary/api"`, `"armillary/interval"`, `"armillary/poly"`}
	for _, name := range files {
		if strings.HasSuffix(name, "_test.go") {
			continue
		}
		file, err := parser.ParseFile(token.NewFileSet(), name, nil, parser.ImportsOnly)
		if err != nil {
			t.Fatal(err)
		}
		for _, spec := range file.Imports {
			if path := spec.Path.Value; strings.HasPrefix(path, `"armillary`) && !slices.Contains(allowed, path) {
				t.Errorf("%s imports %s", name, path)
			}
		}
	}
}
