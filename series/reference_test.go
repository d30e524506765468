package series

import (
	"math/rand"
	"slices"
	"testing"

	"armillary/api"
	"armillary/interval"
	"armillary/tape"
	"armillary/taylor"
)

// P9.1: the coefficients for random tapes are those of a reference that computes each
// of them only when it is needed, from its row of the table.

// randomInterval returns a valid interval: of small numbers mostly, or any.
func randomInterval(source *rand.Rand) api.Interval {
	bound := int64(4 * one)
	switch source.Intn(24) {
	case 0:
		return entire
	case 1:
		bound = largest
	case 2:
		bound = 3
	case 3, 4:
		return whole(1, 1+source.Int63n(2))
	}
	x, y := source.Int63n(2*bound)-bound, source.Int63n(2*bound)-bound
	switch source.Intn(4) {
	case 0:
		y = x
	case 1:
		y = x + source.Int63n(one/8)
	case 2:
		x, y = max(x, -x), max(y, -y)
	}
	return between(min(x, y, largest), min(max(x, y), largest))
}

// randomBox returns a box of n intervals.
func randomBox(source *rand.Rand, n int) []api.Interval {
	var l []api.Interval
	for range n {
		l = append(l, randomInterval(source))
	}
	return l
}

// randomInstruction returns an instruction that may be appended to a list in a tape
// of dimension n. The divisor of a quotient is seldom 0.
func randomInstruction(source *rand.Rand, l []api.Instruction, n int) api.Instruction {
	if len(l) == 0 || source.Intn(3) == 0 {
		switch source.Intn(6) {
		case 0:
			return do(api.Time)
		case 1, 2:
			return value(randomInterval(source))
		}
		return do(api.Var, source.Intn(n))
	}
	earlier := func() int { return max(source.Intn(len(l)), source.Intn(len(l))) }
	switch source.Intn(10) {
	case 0:
		return do(api.Neg, earlier())
	case 1, 2:
		return do(api.Sqr, earlier())
	case 3:
		return do(api.Sqrt, earlier())
	case 4:
		return do(api.Div, earlier(), earlier())
	case 5:
		return do(api.Sub, earlier(), earlier())
	case 6, 7:
		return do(api.Add, earlier(), earlier())
	}
	return do(api.Mul, earlier(), earlier())
}

// randomTape returns a valid tape of the given number of instructions, some of which
// no output may depend on.
func randomTape(source *rand.Rand, length int) api.Tape {
	c := api.Tape{N: 1 + source.Intn(api.MaxDim)}
	for range length {
		c.L = append(c.L, randomInstruction(source, c.L, c.N))
	}
	for range c.N {
		c.Out = append(c.Out, max(source.Intn(length), source.Intn(length)))
	}
	return c
}

// randomModel returns a model: of a variable, of a constant, or of any terms.
func randomModel(source *rand.Rand) api.TaylorModel {
	a := randomInterval(source)
	switch source.Intn(4) {
	case 0:
		return taylor.Const(a)
	case 1:
		m := taylor.Var(source.Intn(6), a)
		return taylor.Add(m, model(between(-source.Int63n(9), source.Int63n(9))))
	case 2:
		m := taylor.Add(taylor.Var(source.Intn(3), a), taylor.Var(source.Intn(3), randomInterval(source)))
		return taylor.Mul(m, taylor.Var(source.Intn(6), whole(1, 2)), source.Intn(7))
	}
	return taylor.Var(source.Intn(6), a)
}

func randomModels(source *rand.Rand, n int) []api.TaylorModel {
	var l []api.TaylorModel
	for range n {
		l = append(l, randomModel(source))
	}
	return l
}

// place is an instruction and an index of a coefficient.
type place struct{ i, k int }

// reference computes interval coefficients.
type reference struct {
	c     api.Tape
	x     []api.Interval
	t     api.Interval
	known map[place]api.Interval
}

func (r reference) state(i, k int) api.Interval {
	if k == 0 {
		return r.x[i]
	}
	return interval.MulRatio(r.at(r.c.Out[i], k-1), 1, int64(k))
}

// at returns coefficient k of instruction i.
func (r reference) at(i, k int) api.Interval {
	a, ok := r.known[place{i, k}]
	if !ok {
		a = r.compute(r.c.L[i], i, k)
		r.known[place{i, k}] = a
	}
	return a
}

// added returns the sum of products of coefficients of two instructions, whose
// indices add up to k.
func (r reference) added(i, j, k, first, last int) api.Interval {
	var l []api.Interval
	for n := first; n <= last; n++ {
		l = append(l, interval.Mul(r.at(i, n), r.at(j, k-n)))
	}
	if len(l) == 0 {
		return point(0)
	}
	sum := l[0]
	for _, a := range l[1:] {
		sum = interval.Add(sum, a)
	}
	return sum
}

func (r reference) compute(in api.Instruction, i, k int) api.Interval {
	switch in.Op {
	case api.Num:
		return []api.Interval{in.C, point(0)}[min(k, 1)]
	case api.Var:
		return r.state(in.A, k)
	case api.Time:
		return []api.Interval{r.t, point(one), point(0)}[min(k, 2)]
	case api.Neg:
		return interval.Neg(r.at(in.A, k))
	case api.Add:
		return interval.Add(r.at(in.A, k), r.at(in.B, k))
	case api.Sub:
		return interval.Sub(r.at(in.A, k), r.at(in.B, k))
	}
	switch {
	case in.Op == api.Mul:
		return r.added(in.A, in.B, k, 0, k)
	case in.Op == api.Sqr && k == 0:
		return interval.Square(r.at(in.A, 0))
	case in.Op == api.Sqr:
		return r.added(in.A, in.A, k, 0, k)
	case in.Op == api.Div && k == 0:
		return interval.Div(r.at(in.A, 0), r.at(in.B, 0))
	case in.Op == api.Div:
		s := r.added(in.B, i, k, 1, k)
		return interval.Div(interval.Sub(r.at(in.A, k), s), r.at(in.B, 0))
	case k > 0:
		s := r.added(i, i, k, 1, k-1)
		return interval.Div(interval.Sub(r.at(in.A, k), s), interval.MulRatio(r.at(i, 0), 2, 1))
	case r.at(in.A, 0).Lo < 0:
		return entire
	}
	root, _ := interval.Sqrt(r.at(in.A, 0))
	return root
}

// referenceSeries returns the coefficients of the state variables.
func referenceSeries(c api.Tape, x []api.Interval, t api.Interval, order int) [][]api.Interval {
	r := reference{c, x, t, map[place]api.Interval{}}
	var l [][]api.Interval
	for i := range x {
		var s []api.Interval
		for k := range order + 1 {
			s = append(s, r.state(i, k))
		}
		l = append(l, s)
	}
	return l
}

// modelReference computes coefficients that are Taylor models. Those of quotients and
// square roots come from a reference for intervals, in whose tape all operands are
// known beforehand.
type modelReference struct {
	c     api.Tape
	x     []api.TaylorModel
	g     api.Expansion
	known map[place]api.TaylorModel
	rest  map[int]reference
}

func (r modelReference) state(i, k int) api.TaylorModel {
	if k == 0 {
		return r.x[i]
	}
	return taylor.MulInterval(r.at(r.c.Out[i], k-1), interval.MulRatio(point(one), 1, int64(k)))
}

func (r modelReference) at(i, k int) api.TaylorModel {
	m, ok := r.known[place{i, k}]
	if !ok {
		m = r.compute(r.c.L[i], i, k)
		r.known[place{i, k}] = m
	}
	return m
}

func (r modelReference) product(i, j, k int) api.TaylorModel {
	sum := taylor.Mul(r.at(i, 0), r.at(j, k), r.g.Deg)
	for n := 1; n <= k; n++ {
		sum = taylor.Add(sum, taylor.Mul(r.at(i, n), r.at(j, k-n), r.g.Deg))
	}
	return sum
}

// fromRanges returns coefficient k of instruction i, given the ranges of the
// coefficients of its operands.
func (r modelReference) fromRanges(in api.Instruction, i, k int) api.TaylorModel {
	s, ok := r.rest[i]
	if !ok {
		s = reference{c: r.c, known: map[place]api.Interval{}}
		r.rest[i] = s
	}
	for n := range k + 1 {
		s.known[place{in.A, n}] = taylor.Range(r.at(in.A, n))
		s.known[place{in.B, n}] = taylor.Range(r.at(in.B, n))
	}
	return taylor.Const(s.at(i, k))
}

func (r modelReference) compute(in api.Instruction, i, k int) api.TaylorModel {
	switch in.Op {
	case api.Num:
		return []api.TaylorModel{taylor.Const(in.C), exact()}[min(k, 1)]
	case api.Var:
		return r.state(in.A, k)
	case api.Time:
		return []api.TaylorModel{taylor.Const(r.g.T), exact(term(one)), exact()}[min(k, 2)]
	case api.Neg:
		return taylor.Neg(r.at(in.A, k))
	case api.Add:
		return taylor.Add(r.at(in.A, k), r.at(in.B, k))
	case api.Sub:
		return taylor.Sub(r.at(in.A, k), r.at(in.B, k))
	case api.Mul:
		return r.product(in.A, in.B, k)
	case api.Sqr:
		return r.product(in.A, in.A, k)
	}
	return r.fromRanges(in, i, k)
}

func referenceModels(c api.Tape, x []api.TaylorModel, g api.Expansion) [][]api.TaylorModel {
	r := modelReference{c, x, g, map[place]api.TaylorModel{}, map[int]reference{}}
	var l [][]api.TaylorModel
	for i := range x {
		var s []api.TaylorModel
		for k := range g.Order + 1 {
			s = append(s, r.state(i, k))
		}
		l = append(l, s)
	}
	return l
}

// census counts coefficients, and those that are bounded.
type census struct{ all, bounded int }

func (c *census) count(bounded bool) {
	c.all++
	if bounded {
		c.bounded++
	}
}

// check checks that neither too few nor too many of the coefficients are bounded.
func (c *census) check(t *testing.T) {
	t.Helper()
	if c.bounded < c.all/3 || c.bounded > c.all*19/20 {
		t.Errorf("%d of %d are bounded: these tests miss something", c.bounded, c.all)
	}
}

func TestRandomTapes(t *testing.T) {
	source := rand.New(rand.NewSource(1))
	var later census
	for i := range 6000 {
		c := randomTape(source, 1+source.Intn([]int{3, 8, 15, 60}[i%4]))
		x, start, order := randomBox(source, c.N), randomInterval(source), source.Intn(api.MaxOrder+1)
		got, want := Coefficients(c, x, start, order), referenceSeries(c, x, start, order)
		if !equalSeries(got, want) {
			t.Fatalf("Coefficients(%v, %v, %v, %d) = %v, want %v", c, x, start, order, got, want)
		}
		for _, s := range got {
			later.count(s[order] != entire)
		}
	}
	later.check(t)
}

func TestRandomTapesOfModels(t *testing.T) {
	source := rand.New(rand.NewSource(2))
	var later census
	for i := range 2000 {
		c := randomTape(source, 1+source.Intn([]int{3, 8, 15, 30}[i%4]))
		x := randomModels(source, c.N)
		g := api.Expansion{T: randomInterval(source), Order: source.Intn(api.MaxOrder + 1), Deg: source.Intn(api.MaxDegree + 1)}
		if g.Deg > 3 {
			g.Order = min(g.Order, 4)
		}
		got, want := ModelCoefficients(c, x, g), referenceModels(c, x, g)
		if !equalModelSeries(got, want) {
			t.Fatalf("ModelCoefficients(%v, %v, %v) = %v, want %v", c, x, g, got, want)
		}
		for _, s := range got {
			later.count(s[g.Order].R != entire)
		}
	}
	later.check(t)
}

// TestFirstCoefficients is about coefficient 1, the derivative: it is what the tape
// has as its values.
func TestFirstCoefficients(t *testing.T) {
	source := rand.New(rand.NewSource(3))
	for range 2000 {
		c := randomTape(source, 1+source.Intn(30))
		x, start := randomBox(source, c.N), randomInterval(source)
		values := tape.Eval(c, x, start)
		for i, s := range Coefficients(c, x, start, 1) {
			if want := []api.Interval{x[i], values[i]}; !slices.Equal(s, want) {
				t.Fatalf("the series of variable %d for %v, %v, %v is %v, want %v", i, c, x, start, s, want)
			}
		}
	}
}

// TestUnusedInstructions compares tapes with those that compute only what is needed,
// once and in another order.
func TestUnusedInstructions(t *testing.T) {
	source := rand.New(rand.NewSource(4))
	for range 500 {
		c := randomTape(source, 2+source.Intn(20))
		d := tape.Optimize(c)
		x, m := randomBox(source, c.N), randomModels(source, c.N)
		g := api.Expansion{T: randomInterval(source), Order: source.Intn(5), Deg: source.Intn(4)}
		if got, want := Coefficients(c, x, g.T, 8), Coefficients(d, x, g.T, 8); !equalSeries(got, want) {
			t.Fatalf("Coefficients of %v = %v, and %v of %v", c, got, want, d)
		}
		if got, want := ModelCoefficients(c, m, g), ModelCoefficients(d, m, g); !equalModelSeries(got, want) {
			t.Fatalf("ModelCoefficients of %v = %v, and %v of %v", c, got, want, d)
		}
	}
}
