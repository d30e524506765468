package step

import (
	"slices"
	"testing"

	"armillary/api"
	"armillary/taylor"
)

// Tests of P12.1: the functions for Taylor models return what L4 says.

// term returns a term with the given coefficient and the first exponents.
func term(c int64, e ...uint8) api.Term {
	t := api.Term{C: c}
	copy(t.E[:], e)
	return t
}

// model returns a model with the given remainder and terms.
func model(r api.Interval, l ...api.Term) api.TaylorModel { return api.TaylorModel{P: l, R: r} }

// exact returns a model without a remainder, and all the given ones.
func exact(l ...api.Term) api.TaylorModel { return model(api.Interval{}, l...) }

func all(l ...api.TaylorModel) []api.TaylorModel { return l }

func unbounded() api.TaylorModel { return model(entire) }

func equalModels(a, b []api.TaylorModel) bool {
	return slices.EqualFunc(a, b, func(m, n api.TaylorModel) bool { return m.R == n.R && slices.Equal(m.P, n.P) })
}

func TestFromBox(t *testing.T) {
	for _, y := range []struct {
		b      []api.Interval
		want   []api.TaylorModel
		ranges []api.Interval
	}{
		{of(point(0)), all(exact()), of(point(0))},
		{of(point(7)), all(exact(term(7))), of(point(7))},
		{of(whole(1, 3)), all(exact(term(2*one), term(one, 1))), of(whole(1, 3))},
		{of(whole(-1, 1)), all(exact(term(one, 1))), of(whole(-1, 1))},
		// The middle is rounded down, so that the range is wider by a unit.
		{of(between(0, 1)), all(exact(term(1, 1))), of(between(-1, 1))},
		{of(between(-2, 1)), all(exact(term(-1), term(2, 1))), of(between(-3, 1))},
		{of(between(-largest, largest)), all(exact(term(largest, 1))), of(between(-largest, largest))},
		{of(between(1-largest, largest)), all(exact(term(largest, 1))), of(between(-largest, largest))},
		{of(between(-largest, largest-1)), all(exact(term(-1), term(largest, 1))), of(entire)},
		{of(entire), all(unbounded()), of(entire)},
		{of(whole(1, 3), entire, whole(2, 2)), all(exact(term(2*one), term(one, 1)), unbounded(), exact(term(2*one))), of(whole(1, 3), entire, whole(2, 2))},
		{
			of(whole(0, 2), whole(0, 4), whole(0, 6), whole(0, 8), whole(0, 10), whole(0, 12)),
			all(exact(term(one), term(one, 1)), exact(term(2*one), term(2*one, 0, 1)), exact(term(3*one), term(3*one, 0, 0, 1)), exact(term(4*one), term(4*one, 0, 0, 0, 1)), exact(term(5*one), term(5*one, 0, 0, 0, 0, 1)), exact(term(6*one), term(6*one, 0, 0, 0, 0, 0, 1))),
			of(whole(0, 2), whole(0, 4), whole(0, 6), whole(0, 8), whole(0, 10), whole(0, 12)),
		},
	} {
		got := FromBox(y.b)
		if !equalModels(got, y.want) {
			t.Errorf("FromBox(%v) = %v, want %v", y.b, got, y.want)
		}
		if r := Ranges(got); !slices.Equal(r, y.ranges) {
			t.Errorf("Ranges(%v) = %v, want %v", got, r, y.ranges)
		}
	}
}

func TestRanges(t *testing.T) {
	for _, y := range []struct {
		x    []api.TaylorModel
		want []api.Interval
	}{
		{all(exact()), of(point(0))},
		{all(model(whole(-1, 2))), of(whole(-1, 2))},
		{all(model(whole(-1, 2), term(5*one))), of(whole(4, 7))},
		{all(exact(term(one, 1), term(2*one, 2))), of(whole(-1, 3))},
		{all(model(whole(0, 1), term(one), term(-2*one, 0, 2), term(one, 1, 1, 1))), of(whole(-2, 3))},
		{all(unbounded(), exact(term(one)), unbounded()), of(entire, whole(1, 1), entire)},
		{all(exact(term(largest), term(1, 1))), of(entire)},
		{all(exact(term(1, 1)), exact(term(2)), exact(term(3, 0, 1)), exact(term(4)), exact(term(5, 6)), exact(term(-6, 0, 4))), of(between(-1, 1), point(2), between(-3, 3), point(4), between(0, 5), between(-6, 0))},
	} {
		if got := Ranges(y.x); !slices.Equal(got, y.want) {
			t.Errorf("Ranges(%v) = %v, want %v", y.x, got, y.want)
		}
	}
}

// modelStep is a call of ModelStep with its result.
type modelStep struct {
	text string
	x    []api.TaylorModel
	g    api.TimeStep
	// order and deg are the greatest ones.
	order, deg int
	want       []api.TaylorModel
	// pre, tube and to are the boxes of the segment.
	pre, tube, to []api.Interval
}

// checkModelStep compares a step with those whose expansions have any times.
func checkModelStep(t *testing.T, y modelStep) {
	t.Helper()
	for _, ignored := range []api.Interval{point(0), entire, whole(-3, 5), point(y.g.T), between(1, 0)} {
		m, s, ok := ModelStep(compiled(t, y.text), y.x, y.g, api.Expansion{T: ignored, Order: y.order, Deg: y.deg})
		want := api.Segment{T: y.g.T, H: y.g.H, From: Ranges(y.x), Pre: y.pre, Tube: y.tube, To: y.to}
		if !ok || !equalModels(m, y.want) || !equalSegments(s, want) {
			t.Fatalf("ModelStep(%q, %v, %v, %d, %d) = %v, %v, %v, want %v, %v", y.text, y.x, y.g, y.order, y.deg, m, s, ok, y.want, want)
		}
	}
}

// TestExplicitModelSteps has systems whose solutions are polynomials of degree 2 at
// most, so that the steps of all orders from the given one on are equal, and of all
// degrees.
func TestExplicitModelSteps(t *testing.T) {
	half := int64(one / 2)
	// s0, 1 + s0, 2 + s1, a constant and a sum of both variables with an error.
	s, x, v := exact(term(one, 1)), exact(term(one), term(one, 1)), exact(term(2*one), term(one, 0, 1))
	constant, sum := taylor.Const(whole(1, 2)), model(between(-1, 1), term(one, 0, 1), term(one, 1))
	for _, y := range []modelStep{
		{"x'=0", all(x), at(0, one), 0, 1, all(x), of(whole(0, 2)), of(whole(0, 2)), of(whole(0, 2))},
		{"x'=0", all(constant), at(0, largest), 0, 0, all(constant), of(whole(1, 2)), of(whole(1, 2)), of(whole(1, 2))},
		{"x'=0", all(exact()), at(-largest, largest), 0, 0, all(exact()), of(point(0)), of(point(0)), of(point(0))},
		{"x'=1", all(s), at(0, half), 0, 1, all(exact(term(half), term(one, 1))), of(between(-one, 3*half)), of(between(-one, 3*half)), of(between(-half, 3*half))},
		{"x'=1", all(s), at(-1, 1), 0, 1, all(exact(term(1), term(one, 1))), of(between(-one, one+1)), of(between(-one, one+1)), of(between(1-one, one+1))},
		{"x'=-2", all(constant), at(0, one), 0, 0, all(model(between(-half, half), term(-half))), of(whole(-1, 2)), of(whole(-1, 2)), of(whole(-1, 0))},
		{"x'=[1,2]", all(sum), at(0, one), 0, 1, all(model(between(-half-1, half+1), term(3*half), term(one, 0, 1), term(one, 1))), of(between(-2*one-1, 4*one+1)), of(between(-2*one-1, 4*one+1)), of(between(-one-1, 4*one+1))},
		{"x'=t", all(s), at(2*one, one), 1, 1, all(exact(term(5*half), term(one, 1))), of(whole(-1, 4)), of(between(-one, 7*half)), of(between(3*half, 7*half))},
		{"x'=t", all(s), at(-2*one, one), 1, 1, all(exact(term(-3*half), term(one, 1))), of(whole(-3, 1)), of(whole(-3, 1)), of(between(-5*half, -half))},
		{"x'=v\nv'=0", all(x, v), at(0, one), 1, 1, all(exact(term(3*one), term(one, 0, 1), term(one, 1)), v), of(between(0, 5*one+8193), whole(1, 3)), of(whole(0, 5), whole(1, 3)), of(whole(1, 5), whole(1, 3))},
		{"x'=1", all(s), at(-largest, 1<<24), 0, 1, all(exact(term(1<<24), term(one, 1))), of(between(-one, 1<<24+one)), of(between(-one, 1<<24+one)), of(between(1<<24-one, 1<<24+one))},
		{
			"a'=1\nb'=2\nc'=3\nd'=-4\ne'=-5\nf'=0", FromBox(slices.Repeat(of(whole(-1, 1)), 6)), at(0, one), 0, 1,
			all(exact(term(one), term(one, 1)), exact(term(2*one), term(one, 0, 1)), exact(term(3*one), term(one, 0, 0, 1)), exact(term(-4*one), term(one, 0, 0, 0, 1)), exact(term(-5*one), term(one, 0, 0, 0, 0, 1)), exact(term(one, 0, 0, 0, 0, 0, 1))),
			of(whole(-1, 2), whole(-1, 3), whole(-1, 4), whole(-5, 1), whole(-6, 1), whole(-1, 1)), of(whole(-1, 2), whole(-1, 3), whole(-1, 4), whole(-5, 1), whole(-6, 1), whole(-1, 1)), of(whole(0, 2), whole(1, 3), whole(2, 4), whole(-5, -3), whole(-6, -4), whole(-1, 1)),
		},
	} {
		for order := y.order; order < 8; order++ {
			for deg := y.deg; deg <= api.MaxDegree; deg++ {
				z := y
				z.order, z.deg = order, deg
				checkModelStep(t, z)
			}
		}
	}
}

// TestModelStep has steps that depend on the order and the degree.
func TestModelStep(t *testing.T) {
	s, v := exact(term(one, 1)), exact(term(one, 0, 1))
	// The coefficients of x' = sqr(x) are s0, s0^2 and s0^3, as far as the degree goes for
	// products; the last one comes from the enclosure. Those of x' = -x are no products,
	// so that their terms of degree 3 are lost only at the end.
	pre, first, second := of(between(-65536, 78497)), of(between(-65536, 75490)), of(between(-65536, 75018))
	wide := of(between(-133505, 133505))
	for _, y := range []modelStep{
		{"x'=t", all(s), at(2*one, one), 0, 1, all(model(between(-one/2, one/2), term(5*one/2), term(one, 1))), of(whole(-1, 4)), of(whole(-1, 4)), of(whole(1, 4))},
		{"x'=t", all(s), at(-2*one, one), 0, 1, all(model(between(-one/2, one/2), term(-3*one/2), term(one, 1))), of(whole(-3, 1)), of(whole(-3, 1)), of(whole(-3, 0))},
		{"x'=v\nv'=0", all(s, v), at(0, one), 0, 1, all(model(whole(-1, 1), term(one, 1)), v), of(between(-2*one-8193, 2*one+8193), whole(-1, 1)), of(whole(-2, 2), whole(-1, 1)), of(whole(-2, 2), whole(-1, 1))},
		{"x'=sqr(x)", all(s), at(0, one/8), 1, 1, all(model(between(-1615, 9808), term(145), term(one, 1))), pre, first, of(between(-65536, 75489))},
		{"x'=sqr(x)", all(s), at(0, one/8), 1, 2, all(model(between(-1615, 1616), term(145), term(one, 1), term(one/8, 2))), pre, first, of(between(-65536, 75489))},
		{"x'=sqr(x)", all(s), at(0, one/8), 1, 6, all(model(between(-1615, 1616), term(145), term(one, 1), term(one/8, 2))), pre, first, of(between(-65536, 75489))},
		{"x'=sqr(x)", all(s), at(0, one/8), 2, 1, all(model(between(-1230, 9423), term(58), term(one, 1))), pre, second, of(between(-65536, 75017))},
		{"x'=sqr(x)", all(s), at(0, one/8), 2, 2, all(model(between(-1230, 1231), term(58), term(one, 1), term(one/8, 2))), pre, second, of(between(-65536, 75017))},
		{"x'=sqr(x)", all(s), at(0, one/8), 2, 3, all(model(between(-206, 207), term(58), term(one, 1), term(one/8, 2), term(one/64, 3))), pre, second, of(between(-65536, 75017))},
		{"x'=-x", all(exact(term(one, 3))), at(0, one/2), 1, 2, all(model(between(-49457, 49457))), wide, of(between(-82226, 82226)), of(between(-49457, 49457))},
		{"x'=-x", all(exact(term(one, 3))), at(0, one/2), 1, 3, all(model(between(-16689, 16689), term(one/2, 3))), wide, of(between(-82226, 82226)), of(between(-49457, 49457))},
		// The sine and the cosine of 1/4 are 16213.68 and 63498.67.
		{"x'=v\nv'=-x", all(s, v), at(7*one, one/4), 4, 1, all(model(between(-4, 4), term(16213, 0, 1), term(63498, 1)), model(between(-4, 4), term(63498, 0, 1), term(-16214, 1))), of(between(-88577, 88577), between(-88577, 88577)), of(between(-83040, 83040), between(-83042, 83042)), of(between(-79715, 79715), between(-79716, 79716))},
		// Both start in one variable, so that x'' = x - v is 0 at the start.
		{"x'=v\nv'=x-v", all(s, s), at(0, one/4), 1, 1, all(model(between(-6959, 6959), term(5*one/4, 1)), model(between(-10847, 10847), term(one, 1))), of(between(-98225, 98225), between(-124433, 124433)), of(between(-88880, 88880), between(-76384, 76384)), of(between(-88879, 88879), between(-76383, 76383))},
	} {
		checkModelStep(t, y)
	}
}

// TestUnboundedModels is about steps whose models are unbounded during the step, or at
// its end, or some of them: the states are still in the enclosure.
func TestUnboundedModels(t *testing.T) {
	s, v := exact(term(one, 1)), exact(term(one, 0, 1))
	pre := of(between(-65536, 88321), between(-65536, 81920))
	// No more than the range of the first one fits: if its terms of degree 2 go to the
	// remainder, this is out of range.
	full := model(whole(0, 20000), term(-30000*one), term(20000*one, 2))
	enclosure, tube := of(whole(-30000, 10001)), of(between(-30000*one, 10000*one+one/2))
	// The polynomial 20000 + 1500 t^2 - 500 t^3 is 20000 at the end, but the enclosure of
	// its first two terms during the step is not bounded. A third of the coefficient is
	// rounded.
	high, rounded := exact(term(20000*one), term(one, 1)), model(between(-40500, 0), term(20000*one+13500), term(one, 1))
	for _, y := range []modelStep{
		{"x'=sqrt(sqr(x))\nv'=1", all(s, v), at(0, one/4), 1, 1, all(unbounded(), exact(term(one/4), term(one, 0, 1))), pre, pre, of(pre[0], between(-3*one/4, 5*one/4))},
		{"x'=t", all(full), at(0, one), 1, 1, all(unbounded()), enclosure, tube, enclosure},
		{"x'=t", all(full), at(0, one), 1, 2, all(model(whole(0, 20000), term(-30000*one+one/2), term(20000*one, 2))), enclosure, tube, of(between(-30000*one+one/2, 10000*one+one/2))},
		{"x'=1500-1500*sqr(t-1)", all(high), at(0, 3*one), 3, 1, all(rounded), of(whole(6499, 24501)), of(whole(6499, 24501)), of(between(19999*one-27000, 20001*one+13500))},
		{"v'=-1\nx'=1500-1500*sqr(t-1)", all(v, high), at(0, 3*one), 3, 1, all(exact(term(-3*one), term(one, 0, 1)), rounded), of(whole(-4, 1), whole(6499, 24501)), of(whole(-4, 1), whole(6499, 24501)), of(whole(-4, -2), between(19999*one-27000, 20001*one+13500))},
	} {
		checkModelStep(t, y)
	}
}

func TestModelFailures(t *testing.T) {
	for _, y := range failures() {
		for order := range 8 {
			for deg := range 7 {
				m, s, ok := ModelStep(compiled(t, y.text), FromBox(y.x), y.g, api.Expansion{Order: order, Deg: deg})
				if ok || len(m) > 0 || !isZero(s) {
					t.Errorf("ModelStep(%q, %v, %v, %d, %d) = %v, %v, %v", y.text, y.x, y.g, order, deg, m, s, ok)
				}
			}
		}
	}
}
