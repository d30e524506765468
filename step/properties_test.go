package step

import (
	"math"
	"math/big"
	"math/rand"
	"slices"
	"testing"

	"armillary/api"
	"armillary/box"
	"armillary/picard"
)

// P12.2: solutions stay in the tube and end in the final box, which lie in the
// enclosure.

// nested reports whether the boxes of a step lie in the enclosure, which validates.
func nested(c api.Tape, s api.Segment) bool {
	return box.Subset(s.To, s.Pre) && box.Subset(s.Tube, s.Pre) && box.Subset(s.From, s.Tube) && picard.Validates(c, s.From, s.Pre, at(s.T, s.H))
}

func TestBoxesOfSteps(t *testing.T) {
	source, count := rand.New(rand.NewSource(11)), census{}
	for range 20000 {
		c, g, order := randomTape(source), randomStep(source), source.Intn(8)
		x := randomBox(source, c.N, true)
		s, ok := IntervalStep(c, x, g, order)
		if !ok {
			count["none"]++
			continue
		}
		if !nested(c, s) || !box.Subset(s.To, s.Tube) || !slices.Equal(s.From, x) {
			t.Fatalf("IntervalStep(%v, %v, %v, %d) = %v", c, x, g, order, s)
		}
		if !slices.Equal(s.To, s.Tube) {
			count["smaller at the end"]++
		}
		if !slices.Equal(s.Tube, s.Pre) {
			count["smaller than the enclosure"]++
		}
	}
	count.check(t, 1000, "none", "smaller at the end", "smaller than the enclosure")
}

// TestBoxesOfModelSteps is about steps with models. By L4, their final boxes come from
// other models than their tubes: they may exceed them by the rounding of these, and by
// more if truncation alone makes a model unbounded.
func TestBoxesOfModelSteps(t *testing.T) {
	source, count := rand.New(rand.NewSource(12)), census{}
	for range 6000 {
		c, g, w := randomTape(source), randomStep(source), api.Expansion{Order: source.Intn(6), Deg: source.Intn(4)}
		x := randomModels(source, c.N)
		m, s, ok := ModelStep(c, x, g, w)
		if !ok {
			count["none"]++
			continue
		}
		if !nested(c, s) {
			t.Fatalf("ModelStep(%v, %v, %v, %v) = %v, %v", c, x, g, w, m, s)
		}
		for i, a := range s.To {
			if m[i].R != entire && !box.Subset(of(a), box.Inflate(s.Tube[i:i+1], 3)) {
				t.Fatalf("ModelStep(%v, %v, %v, %v) = %v, %v", c, x, g, w, m, s)
			}
		}
		if !slices.Equal(s.To, s.Tube) {
			count["smaller at the end"]++
		}
		if !box.Subset(s.To, s.Tube) {
			count["larger at the end"]++
		}
	}
	count.check(t, 300, "none", "smaller at the end")
	if count["larger at the end"] > count["smaller at the end"]/20 {
		t.Errorf("%v: too many final boxes exceed the tube", count)
	}
}

func sum(x, y *big.Rat) *big.Rat { return new(big.Rat).Add(x, y) }

func times(x, y *big.Rat) *big.Rat { return new(big.Rat).Mul(x, y) }

// units returns a number of units as a number.
func units(x int64) *big.Rat { return big.NewRat(x, one) }

// element returns an element of an interval, often one of its ends.
func element(source *rand.Rand, a api.Interval) *big.Rat {
	switch n := source.Intn(4); {
	case a == entire:
		return big.NewRat(source.Int63n(99)-49, 7)
	case n == 0:
		return units(a.Lo)
	case n == 1:
		return units(a.Hi)
	}
	return sum(units(a.Lo), times(units(a.Hi-a.Lo), big.NewRat(source.Int63n(9), 8)))
}

// pointIn returns a point of a box, often one of its corners.
func pointIn(source *rand.Rand, b []api.Interval) []*big.Rat {
	var l []*big.Rat
	for _, a := range b {
		l = append(l, element(source, a))
	}
	return l
}

func contains(a api.Interval, x *big.Rat) bool {
	return a == entire || units(a.Lo).Cmp(x) <= 0 && x.Cmp(units(a.Hi)) <= 0
}

// near reports whether a number is no more than a unit from an end of an interval.
func near(a api.Interval, x *big.Rat) bool {
	return !contains(between(a.Lo+1, a.Hi-1), x)
}

// valueAt returns a value of a model at a point.
func valueAt(source *rand.Rand, m api.TaylorModel, s []*big.Rat) *big.Rat {
	return sum(polynomialAt(m.P, s), element(source, m.R))
}

func polynomialAt(p []api.Term, s []*big.Rat) *big.Rat {
	total := new(big.Rat)
	for _, t := range p {
		v := units(t.C)
		for i, n := range t.E {
			for range n {
				v = times(v, s[i])
			}
		}
		total = sum(total, v)
	}
	return total
}

// hasValue reports whether a number is a value of a model at a point.
func hasValue(m api.TaylorModel, s []*big.Rat, x *big.Rat) bool {
	return contains(m.R, new(big.Rat).Sub(x, polynomialAt(m.P, s)))
}

// domainPoint returns a point of the domain of models.
func domainPoint(source *rand.Rand) []*big.Rat {
	return pointIn(source, slices.Repeat(of(whole(-1, 1)), 6))
}

// TestExplicitSolutions is about x' = c and x' = t, whose solutions x + c h and
// x + T h + h^2 / 2 are rational, and both at once.
func TestExplicitSolutions(t *testing.T) {
	source, count := rand.New(rand.NewSource(13)), census{}
	half := big.NewRat(1, 2)
	for range 20000 {
		g, order := randomStep(source), source.Intn(8)
		slope := randomBox(source, 1, true)[0]
		c := tapeOf([]int{0, 1, 2}, value(slope), do(api.Time), do(api.Add, 0, 1))
		m := randomModels(source, 3)
		s, ok := IntervalStep(c, Ranges(m), g, order)
		models, u, also := ModelStep(c, m, g, api.Expansion{Order: order, Deg: source.Intn(7)})
		if ok != also {
			t.Fatalf("steps for %v, %v, %v, %d: %v, %v", c, m, g, order, ok, also)
		}
		if !ok {
			count["none"]++
			continue
		}
		count["found"]++
		at := domainPoint(source)
		start, a, elapsed := []*big.Rat{valueAt(source, m[0], at), valueAt(source, m[1], at), valueAt(source, m[2], at)}, element(source, slope), element(source, between(0, g.H))
		state := func(h *big.Rat) []*big.Rat {
			linear := times(a, h)
			square := sum(times(units(g.T), h), times(half, times(h, h)))
			return []*big.Rat{sum(start[0], linear), sum(start[1], square), sum(start[2], sum(linear, square))}
		}
		now, end := state(elapsed), state(units(g.H))
		for i := range 3 {
			if !contains(s.Tube[i], now[i]) || !contains(s.To[i], end[i]) || !contains(u.Tube[i], now[i]) || !contains(u.To[i], end[i]) || !hasValue(models[i], at, end[i]) {
				t.Fatalf("coordinate %d of the steps %v and %v, %v, from %v with the slope %v, is at %v after %v, and then at %v", i, s, models, u, start, a, now[i], elapsed, end[i])
			}
			if near(s.To[i], end[i]) {
				count["near an end"]++
			}
			if near(s.Tube[i], now[i]) {
				count["near an end of the tube"]++
			}
			if near(u.To[i], end[i]) {
				count["near an end of a model"]++
			}
		}
	}
	count.check(t, 3000, "none", "found", "near an end", "near an end of the tube", "near an end of a model")
}

// motion is a system without uncertainty: a tape, and numbers for its constants.
type motion struct {
	c         api.Tape
	constants []float64
}

// motionOf returns a motion of a system.
func motionOf(source *rand.Rand, c api.Tape) motion {
	m := motion{c: c}
	for _, in := range c.L {
		a, _ := element(source, in.C).Float64()
		m.constants = append(m.constants, a)
	}
	return m
}

// slopes returns the derivatives at a point and a time, all of them numbers or NaN.
func (m motion) slopes(x []float64, now float64) []float64 {
	var l, slopes []float64
	for i, in := range m.c.L {
		var v float64
		switch in.Op {
		case api.Num:
			v = m.constants[i]
		case api.Var:
			v = x[in.A]
		case api.Time:
			v = now
		case api.Neg:
			v = -l[in.A]
		case api.Sqr:
			v = l[in.A] * l[in.A]
		case api.Sqrt:
			v = math.Sqrt(l[in.A])
		case api.Add:
			v = l[in.A] + l[in.B]
		case api.Sub:
			v = l[in.A] - l[in.B]
		case api.Mul:
			v = l[in.A] * l[in.B]
		case api.Div:
			v = l[in.A] / l[in.B]
		}
		l = append(l, v)
	}
	for _, i := range m.c.Out {
		slopes = append(slopes, l[i])
	}
	return slopes
}

// moved returns the state after a duration, by a step of the classical method of Runge
// and Kutta.
func (m motion) moved(x []float64, now, h float64) []float64 {
	along := func(slopes []float64, h float64) []float64 {
		var l []float64
		for i := range x {
			l = append(l, x[i]+h*slopes[i])
		}
		return l
	}
	a := m.slopes(x, now)
	b := m.slopes(along(a, h/2), now+h/2)
	c := m.slopes(along(b, h/2), now+h/2)
	d := m.slopes(along(c, h), now+h)
	var mean []float64
	for i := range a {
		mean = append(mean, (a[i]+2*b[i]+2*c[i]+d[i])/6)
	}
	return along(mean, h)
}

// pieces is how many parts of a step are looked at.
const pieces = 4

// path returns the states in units at the ends of all parts of a step, computed in the
// given number of steps for each part.
func (m motion) path(x []float64, g api.TimeStep, steps int) [][]float64 {
	h := float64(g.H) / one / pieces / float64(steps)
	var l [][]float64
	for k := range pieces {
		for n := range steps {
			x = m.moved(x, float64(g.T)/one+h*float64(k*steps+n), h)
		}
		var state []float64
		for _, v := range x {
			state = append(state, v*one)
		}
		l = append(l, state)
	}
	return l
}

// tolerance is the greatest error of a path, in units.
const tolerance = 0.001

// exactPath returns the states on a path, and false if they are not known well enough.
func (m motion) exactPath(x []float64, g api.TimeStep) ([][]float64, bool) {
	rough, l := m.path(x, g, 8), m.path(x, g, 16)
	for k := range l {
		for i, v := range l[k] {
			// The error is a fifteenth of the difference, and not the case if it is NaN.
			if !(math.Abs(v-rough[k][i]) < tolerance) {
				return nil, false
			}
		}
	}
	return l, true
}

// holds reports whether an interval contains a number of units, or would with a
// tolerance.
func holds(a api.Interval, x float64) bool {
	return float64(a.Lo)-tolerance <= x && x <= float64(a.Hi)+tolerance
}

// partOf returns the part of a step that ends with piece k.
func partOf(g api.TimeStep, k int) api.Interval {
	n := int64(k + 1)
	return between(g.H*n/pieces, (g.H*n+pieces-1)/pieces)
}

// floats returns numbers as floats.
func floats(l []*big.Rat) []float64 {
	var x []float64
	for _, a := range l {
		v, _ := a.Float64()
		x = append(x, v)
	}
	return x
}

// TestSolutions follows solutions of random systems through interval steps.
func TestSolutions(t *testing.T) {
	source, count := rand.New(rand.NewSource(14)), census{}
	for range 20000 {
		c, g, order := randomTape(source), randomStep(source), source.Intn(8)
		x := randomBox(source, c.N, true)
		s, ok := IntervalStep(c, x, g, order)
		if !ok {
			continue
		}
		l, ok := motionOf(source, c).exactPath(floats(pointIn(source, x)), g)
		if !ok {
			count["unknown"]++
			continue
		}
		count["known"]++
		for k, state := range l {
			part := EnclosureAt(c, x, s.Pre, during(g, partOf(g, k), order))
			for i, v := range state {
				if !holds(s.Tube[i], v) || !holds(part[i], v) || k == pieces-1 && !holds(s.To[i], v) {
					t.Fatalf("IntervalStep(%v, %v, %v, %d) = %v, and at %v it is %v, but a solution is at %v", c, x, g, order, s, partOf(g, k), part, state)
				}
				if k == pieces-1 && v != math.Trunc(v) && (v < float64(s.To[i].Lo+2) || v > float64(s.To[i].Hi-2)) {
					count["near an end"]++
				}
			}
		}
	}
	count.check(t, 2000, "known", "near an end")
	if count["unknown"] > count["known"]/4 {
		t.Errorf("%v: these tests miss something", count)
	}
}

// TestSolutionsOfModels follows solutions of random systems through steps with models:
// they start in the values of the models at a point, and end in those at this point.
func TestSolutionsOfModels(t *testing.T) {
	source, count := rand.New(rand.NewSource(15)), census{}
	for range 6000 {
		c, g, w := randomTape(source), randomStep(source), api.Expansion{Order: source.Intn(6), Deg: source.Intn(4)}
		x := randomModels(source, c.N)
		m, s, ok := ModelStep(c, x, g, w)
		if !ok {
			continue
		}
		at := domainPoint(source)
		var start []*big.Rat
		for _, m := range x {
			start = append(start, valueAt(source, m, at))
		}
		l, ok := motionOf(source, c).exactPath(floats(start), g)
		if !ok {
			count["unknown"]++
			continue
		}
		count["known"]++
		for k, state := range l {
			for i, v := range state {
				end, _ := polynomialAt(m[i].P, at).Float64()
				if !holds(s.Tube[i], v) || k == pieces-1 && (!holds(s.To[i], v) || m[i].R != entire && !holds(m[i].R, v-end*one)) {
					t.Fatalf("ModelStep(%v, %v, %v, %v) = %v, %v, but a solution that starts at %v is at %v", c, x, g, w, m, s, start, state)
				}
				if k == pieces-1 && v != math.Trunc(v) && (v < float64(s.To[i].Lo+2) || v > float64(s.To[i].Hi-2)) {
					count["near an end"]++
				}
			}
		}
	}
	count.check(t, 500, "known", "near an end")
	if count["unknown"] > count["known"]/4 {
		t.Errorf("%v: these tests miss something", count)
	}
}

// TestKnownSolutions has systems with known solutions.
func TestKnownSolutions(t *testing.T) {
	source := rand.New(rand.NewSource(16))
	for _, y := range []struct {
		text string
		// at returns the solution that starts in x at the time start, after a duration h.
		at func(x []float64, start, h float64) []float64
	}{
		{"x'=x", func(x []float64, _, h float64) []float64 { return []float64{x[0] * math.Exp(h)} }},
		{"x'=2-x", func(x []float64, _, h float64) []float64 { return []float64{2 + (x[0]-2)*math.Exp(-h)} }},
		{"x'=t*x", func(x []float64, start, h float64) []float64 { return []float64{x[0] * math.Exp(start*h+h*h/2)} }},
		{"x'=sqr(x)", func(x []float64, _, h float64) []float64 { return []float64{x[0] / (1 - x[0]*h)} }},
		{"x'=1/x", func(x []float64, _, h float64) []float64 {
			return []float64{math.Copysign(math.Sqrt(x[0]*x[0]+2*h), x[0])}
		}},
		{"x'=sqrt(x)", func(x []float64, _, h float64) []float64 {
			root := math.Sqrt(x[0]) + h/2
			return []float64{root * root}
		}},
		{"x'=v\nv'=-x", func(x []float64, _, h float64) []float64 {
			return []float64{x[0]*math.Cos(h) + x[1]*math.Sin(h), x[1]*math.Cos(h) - x[0]*math.Sin(h)}
		}},
		{"x'=v\nv'=w\nw'=6", func(x []float64, _, h float64) []float64 {
			return []float64{x[0] + h*(x[1]+h*(x[2]/2+h)), x[1] + h*(x[2]+3*h), x[2] + 6*h}
		}},
	} {
		c, found := compiled(t, y.text), 0
		for range 500 {
			x, g, order := randomBox(source, c.N, true), at(source.Int63n(8*one)-4*one, 1+source.Int63n(one/2)), source.Intn(8)
			s, ok := IntervalStep(c, x, g, order)
			_, u, also := ModelStep(c, FromBox(x), g, api.Expansion{Order: order, Deg: 2})
			if !ok || !also {
				continue
			}
			found++
			start := floats(pointIn(source, x))
			for k := range 9 {
				for i, v := range y.at(start, float64(g.T)/one, float64(g.H)/one*float64(k)/8) {
					v *= one
					if !holds(s.Tube[i], v) || !holds(u.Tube[i], v) || k == 8 && (!holds(s.To[i], v) || !holds(u.To[i], v)) {
						t.Fatalf("steps of %q are %v and %v, but after %d/8 of it a solution is at %v", y.text, s, u, k, v)
					}
				}
			}
		}
		if found < 50 {
			t.Errorf("only %d steps are found for %q", found, y.text)
		}
	}
}

// TestPrecision is about how close to the solution high orders are.
func TestPrecision(t *testing.T) {
	c, g := compiled(t, "x'=v\nv'=-x"), at(3*one, one/4)
	s, _ := IntervalStep(c, of(point(0), whole(1, 1)), g, 7)
	m, u, _ := ModelStep(c, all(exact(term(one, 1)), exact(term(one, 0, 1))), g, api.Expansion{Order: 7, Deg: 1})
	if box.Width(s.To) > 3 || len(m) != 2 || m[0].R.Hi-m[0].R.Lo > 8 || m[1].R.Hi-m[1].R.Lo > 8 || box.Width(u.To) > 3*one {
		t.Errorf("steps of order 7 are %v and %v, %v", s, m, u)
	}
}

// P12.3: steps of all kinds intersect.

// halves returns the final box of two half steps.
func halves(c api.Tape, x []api.Interval, g api.TimeStep, order int) ([]api.Interval, bool) {
	first, ok := IntervalStep(c, x, at(g.T, g.H/2), order)
	if !ok {
		return nil, false
	}
	second, ok := IntervalStep(c, first.To, at(g.T+g.H/2, g.H-g.H/2), order)
	return second.To, ok
}

func TestConsistency(t *testing.T) {
	source, count := rand.New(rand.NewSource(17)), census{}
	for range 6000 {
		c, g, order := randomTape(source), randomStep(source), source.Intn(8)
		g.H = max(g.H, 2)
		if g.T > largest-g.H {
			g.T = largest - g.H
		}
		x := randomBox(source, c.N, true)
		s, ok := IntervalStep(c, x, g, order)
		if !ok {
			continue
		}
		count["steps"]++
		common, tube := s.To, s.Tube
		other, ok := IntervalStep(c, x, g, (order+1+source.Intn(7))%8)
		if !ok {
			t.Fatalf("there is no step of another order for %v, %v, %v", c, x, g)
		}
		_, u, ok := ModelStep(c, FromBox(x), g, api.Expansion{Order: min(order, 5), Deg: source.Intn(4)})
		if !ok {
			// The range of a model may be wider by a unit.
			count["none with models"]++
			u = s
		}
		end, ok := halves(c, x, g, order)
		if !ok {
			count["no halves"]++
			end = s.To
		}
		// All of them contain the solutions, and so do the tubes.
		for _, b := range [][2][]api.Interval{{other.To, other.Tube}, {u.To, u.Tube}, {end, s.Tube}} {
			if common, ok = box.Intersect(common, b[0]); !ok {
				t.Fatalf("the final boxes for %v, %v, %v, %d are %v, %v, %v, %v", c, x, g, order, s.To, other.To, u.To, end)
			}
			if tube, ok = box.Intersect(tube, b[1]); !ok || !box.Subset(x, tube) {
				t.Fatalf("the tubes for %v, %v, %v, %d are %v, %v, %v", c, x, g, order, s.Tube, other.Tube, u.Tube)
			}
		}
		if !slices.Equal(s.To, other.To) {
			count["another order"]++
		}
		if !slices.Equal(s.To, u.To) {
			count["another with models"]++
		}
		if !slices.Equal(s.To, end) {
			count["other halves"]++
		}
	}
	count.check(t, 500, "steps", "another order", "another with models", "other halves")
	if count["none with models"] > count["steps"]/20 || count["no halves"] > count["steps"]/4 {
		t.Errorf("%v: these tests miss something", count)
	}
}

// P12.4: parts of a step have smaller enclosures, and a step from a point intersects
// that from the box.

// partOfBox returns a box that a bounded one contains.
func partOfBox(source *rand.Rand, b []api.Interval) []api.Interval {
	var l []api.Interval
	for _, a := range b {
		x, y := a.Lo+source.Int63n(a.Hi-a.Lo+1), a.Lo+source.Int63n(a.Hi-a.Lo+1)
		l = append(l, []api.Interval{a, point(x), between(min(x, y), max(x, y))}[source.Intn(3)])
	}
	return l
}

func TestIsotonicity(t *testing.T) {
	source, count := rand.New(rand.NewSource(18)), census{}
	for range 20000 {
		c, g, order := randomTape(source), randomStep(source), source.Intn(8)
		x := randomBox(source, c.N, true)
		s, ok := IntervalStep(c, x, g, order)
		if !ok {
			continue
		}
		count["steps"]++
		outer := randomPart(source, g.H)
		inner := partOfBox(source, of(outer))[0]
		large, small := EnclosureAt(c, x, s.Pre, during(g, outer, order)), EnclosureAt(c, x, s.Pre, during(g, inner, order))
		if !box.Subset(small, large) || !box.Subset(large, s.Tube) {
			t.Fatalf("the enclosure for %v, %v, %v, %d is %v at %v, %v at %v, and %v in all", c, x, g, order, small, inner, large, outer, s.Tube)
		}
		if !slices.Equal(small, large) {
			count["smaller"]++
		}
		// A shorter step with the same enclosure, and a part of the box.
		shorter := at(g.T, max(inner.Hi, 1))
		less := EnclosureAt(c, partOfBox(source, x), s.Pre, during(shorter, inner, order))
		if !box.Subset(less, small) {
			t.Fatalf("the enclosure for %v, %v, %v, %d is %v at %v, but %v for %v", c, x, g, order, small, inner, less, shorter)
		}
		if !slices.Equal(less, small) {
			count["less"]++
		}
	}
	count.check(t, 1000, "steps", "smaller", "less")
}

func TestStepsFromPoints(t *testing.T) {
	source, count := rand.New(rand.NewSource(19)), census{}
	for range 20000 {
		c, g, order := randomTape(source), randomStep(source), source.Intn(8)
		x := randomBox(source, c.N, true)
		s, ok := IntervalStep(c, x, g, order)
		if !ok {
			continue
		}
		var p []api.Interval
		for _, a := range x {
			p = append(p, point(a.Lo+source.Int63n(a.Hi-a.Lo+1)))
		}
		u, ok := IntervalStep(c, p, g, order)
		if !ok {
			count["none"]++
			continue
		}
		count["steps"]++
		_, ends := box.Intersect(s.To, u.To)
		tube, tubes := box.Intersect(s.Tube, u.Tube)
		if !ends || !tubes || !box.Subset(p, tube) {
			t.Fatalf("the steps for %v, %v, %d are %v from a box, and %v from a point", c, g, order, s, u)
		}
		if !slices.Equal(s.To, u.To) {
			count["other"]++
		}
	}
	count.check(t, 1000, "steps", "other")
	if count["none"] > count["steps"]/4 {
		t.Errorf("%v: these tests miss something", count)
	}
}

// P12.5: systems with zero derivatives leave the box unchanged.

func TestEquilibria(t *testing.T) {
	source, count := rand.New(rand.NewSource(20)), census{}
	for range 5000 {
		n := 1 + source.Intn(api.MaxDim)
		// The derivatives are 0, -0, 0 * 0, or 0 times a state variable.
		c := tapeOf(nil, value(point(0)), do(api.Neg, 0), do(api.Sqr, 1), do(api.Var, source.Intn(n)), do(api.Mul, 3, 0))
		c.N = n
		for range n {
			c.Out = append(c.Out, []int{0, 1, 2, 4}[source.Intn(4)])
		}
		x, g, w := randomBox(source, n, true), randomStep(source), api.Expansion{Order: source.Intn(8), Deg: 1 + source.Intn(6)}
		if source.Intn(10) == 0 {
			// There is no room to inflate this one.
			x[source.Intn(n)] = point([]int64{-largest, largest}[source.Intn(2)])
		}
		want := api.Segment{T: g.T, H: g.H, From: x, Pre: x, Tube: x, To: x}
		s, ok := IntervalStep(c, x, g, w.Order)
		if !ok {
			count["none"]++
		} else if count["steps"]++; !equalSegments(s, want) {
			t.Fatalf("IntervalStep(%v, %v, %v, %d) = %v", c, x, g, w.Order, s)
		}
		models := FromBox(x)
		b := Ranges(models)
		want = api.Segment{T: g.T, H: g.H, From: b, Pre: b, Tube: b, To: b}
		m, s, ok := ModelStep(c, models, g, w)
		if !ok {
			count["none with models"]++
		} else if count["steps with models"]++; !equalSegments(s, want) || !equalModels(m, models) {
			t.Fatalf("ModelStep(%v, %v, %v, %v) = %v, %v", c, models, g, w, m, s)
		}
	}
	count.check(t, 100, "none", "steps", "none with models", "steps with models")
	if count["none"] > count["steps"]/2 {
		t.Errorf("%v: these tests miss something", count)
	}
}
