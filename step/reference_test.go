package step

import (
	"math/big"
	"math/rand"
	"slices"
	"testing"

	"armillary/api"
	"armillary/picard"
	"armillary/series"
	"armillary/taylor"
)

// A reference for P12.1, word by word, that evaluates series of intervals in exact
// rationals, and random arguments to compare it with.

// makeOf returns the smallest interval that contains two rational numbers of units in
// order.
func makeOf(lo, hi *big.Rat) api.Interval {
	least, _ := new(big.Int).DivMod(lo.Num(), lo.Denom(), new(big.Int))
	greatest, rest := new(big.Int).DivMod(hi.Num(), hi.Denom(), new(big.Int))
	if rest.Sign() > 0 {
		greatest.Add(greatest, big.NewInt(1))
	}
	if least.Cmp(big.NewInt(-api.Max)) <= 0 || greatest.Cmp(big.NewInt(api.Max)) >= 0 {
		return entire
	}
	return between(least.Int64(), greatest.Int64())
}

// wantValue returns the value of a series at h.
func wantValue(s []api.Interval, h api.Interval) api.Interval {
	v := s[len(s)-1]
	for k := len(s) - 2; k >= 0; k-- {
		if v == entire || h == entire || s[k] == entire {
			v = entire
			continue
		}
		var ends []*big.Rat
		for _, x := range []int64{v.Lo, v.Hi} {
			for _, y := range []int64{h.Lo, h.Hi} {
				ends = append(ends, new(big.Rat).Mul(big.NewRat(x, 1), big.NewRat(y, one)))
			}
		}
		slices.SortFunc(ends, (*big.Rat).Cmp)
		if v = makeOf(ends[0], ends[3]); v != entire {
			v = makeOf(big.NewRat(v.Lo+s[k].Lo, 1), big.NewRat(v.Hi+s[k].Hi, 1))
		}
	}
	return v
}

// wantRestricted returns an interval restricted to another one.
func wantRestricted(a, b api.Interval) api.Interval {
	switch {
	case a == entire:
		return b
	case b == entire:
		return a
	case a.Hi < b.Lo || b.Hi < a.Lo:
		return b
	}
	return between(max(a.Lo, b.Lo), min(a.Hi, b.Hi))
}

func wantRemainder(c api.Tape, b []api.Interval, g api.TimeStep, order int) []api.Interval {
	var want []api.Interval
	for _, s := range series.Coefficients(c, b, between(g.T, g.T+g.H), api.MaxOrder) {
		want = append(want, s[order+1])
	}
	return want
}

// wantEnclosure returns the values of EnclosureAt, and those before they are restricted.
func wantEnclosure(c api.Tape, x, b []api.Interval, w api.StepWindow) (want, raw []api.Interval) {
	l := series.Coefficients(c, x, between(w.T, w.T), api.MaxOrder)
	for i, rest := range wantRemainder(c, b, at(w.T, w.H), w.Order) {
		v := wantValue(append(slices.Clone(l[i][:w.Order+1]), rest), w.Part)
		raw = append(raw, v)
		want = append(want, wantRestricted(v, b[i]))
	}
	return want, raw
}

func wantStep(c api.Tape, x []api.Interval, g api.TimeStep, order int) (api.Segment, bool) {
	b, ok := picard.Enclose(c, x, g)
	if !ok {
		return api.Segment{}, false
	}
	tube, _ := wantEnclosure(c, x, b, during(g, between(0, g.H), order))
	to, _ := wantEnclosure(c, x, b, during(g, between(g.H, g.H), order))
	return api.Segment{T: g.T, H: g.H, From: x, Pre: b, Tube: tube, To: to}, true
}

// wantModel returns the value of a series of models at h.
func wantModel(s []api.TaylorModel, h api.Interval) api.TaylorModel {
	v := s[len(s)-1]
	for k := len(s) - 2; k >= 0; k-- {
		v = taylor.Add(taylor.MulInterval(v, h), s[k])
	}
	return v
}

func wantModelStep(c api.Tape, x []api.TaylorModel, g api.TimeStep, order, deg int) ([]api.TaylorModel, api.Segment, bool) {
	want := api.Segment{T: g.T, H: g.H}
	for _, m := range x {
		want.From = append(want.From, taylor.Range(m))
	}
	b, ok := picard.Enclose(c, want.From, g)
	if !ok {
		return nil, api.Segment{}, false
	}
	want.Pre = b
	var models []api.TaylorModel
	rest := wantRemainder(c, b, g, order)
	for i, s := range series.ModelCoefficients(c, x, api.Expansion{T: between(g.T, g.T), Order: order, Deg: deg}) {
		s = append(slices.Clone(s), taylor.Const(rest[i]))
		m := taylor.Truncate(wantModel(s, between(g.H, g.H)), deg)
		models = append(models, m)
		want.To = append(want.To, wantRestricted(taylor.Range(m), b[i]))
		want.Tube = append(want.Tube, wantRestricted(taylor.Range(wantModel(s, between(0, g.H))), b[i]))
	}
	return models, want, true
}

// randomInterval returns a valid interval: any, of small numbers, a point, or entire.
func randomInterval(source *rand.Rand) api.Interval {
	bound := int64(1) << (1 + source.Intn(31))
	x, y := source.Int63n(2*bound-1)-bound+1, source.Int63n(2*bound-1)-bound+1
	switch source.Intn(16) {
	case 0:
		return entire
	case 1:
		return between(min(x, y), max(x, y))
	case 2:
		return point(x)
	case 3, 4, 5, 6:
		return point(source.Int63n(8*one) - 4*one)
	}
	x = source.Int63n(8*one) - 4*one
	return between(x, x+source.Int63n(int64(1)<<source.Intn(18)))
}

// randomBox returns a box of n intervals, which are bounded if they have to be.
func randomBox(source *rand.Rand, n int, finite bool) []api.Interval {
	var l []api.Interval
	for len(l) < n {
		if a := randomInterval(source); !finite || a != entire {
			l = append(l, a)
		}
	}
	return l
}

// randomStep returns a step: mostly a short one, at any time.
func randomStep(source *rand.Rand) api.TimeStep {
	h := 1 + source.Int63n(int64(1)<<(4+source.Intn(14)))
	if source.Intn(20) == 0 {
		h = 1 + source.Int63n(largest)
	}
	start := source.Int63n(2*largest-h+1) - largest
	switch source.Intn(8) {
	case 0:
		start = -largest
	case 1:
		start = largest - h
	case 2, 3, 4, 5:
		start = min(max(start%(4*one), -largest), largest-h)
	}
	return at(start, h)
}

// randomPart returns a part of a duration, often all of it or an end.
func randomPart(source *rand.Rand, h int64) api.Interval {
	x, y := source.Int63n(h+1), source.Int63n(h+1)
	return []api.Interval{point(0), point(h), between(0, h), between(min(x, y), max(x, y)), point(x)}[source.Intn(5)]
}

// leaf returns an instruction without operands.
func leaf(source *rand.Rand, n int, ops []int) api.Instruction {
	in := api.Instruction{Op: ops[source.Intn(len(ops))]}
	switch in.Op {
	case api.Num:
		in.C = randomInterval(source)
	case api.Var:
		in.A = source.Intn(n)
	}
	return in
}

// tapeWith returns a valid tape of dimension n with at most the given number of
// instructions, and no others without operands than the given ones.
func tapeWith(source *rand.Rand, n, length int, ops ...int) api.Tape {
	c := api.Tape{N: n}
	for i := range length {
		in := leaf(source, n, ops)
		if i > 0 && source.Intn(5) > 1 {
			in = api.Instruction{Op: []int{api.Neg, api.Sqr, api.Sqrt, api.Add, api.Add, api.Sub, api.Sub, api.Mul, api.Mul, api.Div}[source.Intn(10)], A: source.Intn(i)}
		}
		if in.Op >= api.Add {
			in.B = source.Intn(i)
		}
		c.L = append(c.L, in)
	}
	for range n {
		c.Out = append(c.Out, max(source.Intn(length), source.Intn(length)))
	}
	return c
}

// randomTape returns a valid tape: with all kinds of instructions, or each of whose
// expressions is a multiple of a state variable, plus a constant.
func randomTape(source *rand.Rand) api.Tape {
	if source.Intn(3) > 0 {
		return tapeWith(source, 1+source.Intn(api.MaxDim), 1+source.Intn(12), api.Num, api.Var, api.Var, api.Time)
	}
	c := api.Tape{N: 1 + source.Intn(3)}
	for range c.N {
		i := len(c.L)
		c.L = append(c.L,
			value(point(source.Int63n(4*one)-2*one)), do(api.Var, source.Intn(c.N)), do(api.Mul, i, i+1),
			value(point(source.Int63n(one)-one/2)), do(api.Add, i+2, i+3))
		c.Out = append(c.Out, i+4)
	}
	return c
}

// randomModel returns a model: a variable, a constant, a sum of these with an error, or
// a product.
func randomModel(source *rand.Rand) api.TaylorModel {
	a := randomBox(source, 2, true)
	deviation := model(between(-source.Int63n(9), source.Int63n(9)))
	switch source.Intn(5) {
	case 0:
		return taylor.Const(a[0])
	case 1:
		return taylor.Add(taylor.Add(taylor.Var(source.Intn(6), a[0]), taylor.Const(a[1])), deviation)
	case 2:
		return taylor.Add(taylor.Add(taylor.Var(source.Intn(6), a[0]), taylor.Var(source.Intn(6), a[1])), deviation)
	case 3:
		return taylor.Mul(taylor.Var(source.Intn(3), a[0]), taylor.Var(source.Intn(3), a[1]), source.Intn(7))
	}
	return taylor.Var(source.Intn(6), a[0])
}

func randomModels(source *rand.Rand, n int) []api.TaylorModel {
	var l []api.TaylorModel
	for range n {
		l = append(l, randomModel(source))
	}
	return l
}

// census counts what occurs in random arguments.
type census map[string]int

// check checks that all kinds occur as often as needed.
func (c census) check(t *testing.T, needed int, kinds ...string) {
	t.Helper()
	for _, kind := range kinds {
		if c[kind] < needed {
			t.Errorf("%d times %s, %v: these tests miss something", c[kind], kind, c)
		}
	}
}

// countRestriction counts how a box and the one that it is restricted to lie.
func (c census) countRestriction(raw, b []api.Interval) {
	for i, a := range raw {
		switch r := wantRestricted(a, b[i]); {
		case a == entire:
			c["entire"]++
		case b[i] != entire && (a.Hi < b[i].Lo || a.Lo > b[i].Hi):
			c["disjoint"]++
		case r == a:
			c["within"]++
		case r == b[i]:
			c["around"]++
		case r.Lo == r.Hi:
			c["touching"]++
		default:
			c["overlapping"]++
		}
	}
}

func TestRandomEnclosures(t *testing.T) {
	source, count := rand.New(rand.NewSource(1)), census{}
	for range 20000 {
		c, g, order := randomTape(source), randomStep(source), source.Intn(8)
		x, b := randomBox(source, c.N, false), randomBox(source, c.N, false)
		if source.Intn(2) == 0 {
			b = widened(source, x)
		}
		rest := wantRemainder(c, b, g, order)
		if got := Remainder(c, b, g, order); !slices.Equal(got, rest) {
			t.Fatalf("Remainder(%v, %v, %v, %d) = %v, want %v", c, b, g, order, got, rest)
		}
		w := during(g, randomPart(source, g.H), order)
		want, raw := wantEnclosure(c, x, b, w)
		if source.Intn(8) == 0 && raw[0] != entire && raw[0].Lo > 4-largest {
			// Another b may touch it, but has another remainder.
			b[0] = between(raw[0].Lo-source.Int63n(3), raw[0].Lo)
			want, raw = wantEnclosure(c, x, b, w)
		}
		count.countRestriction(raw, b)
		if got := EnclosureAt(c, x, b, w); !slices.Equal(got, want) {
			t.Fatalf("EnclosureAt(%v, %v, %v, %v) = %v, want %v", c, x, b, w, got, want)
		}
	}
	count.check(t, 100, "entire", "disjoint", "within", "around", "touching", "overlapping")
}

func TestRandomSteps(t *testing.T) {
	source, count := rand.New(rand.NewSource(2)), census{}
	for range 20000 {
		c, g, order := randomTape(source), randomStep(source), source.Intn(8)
		x := randomBox(source, c.N, source.Intn(9) > 0)
		want, ok := wantStep(c, x, g, order)
		if got, found := IntervalStep(c, x, g, order); !equalSegments(got, want) || ok != found {
			t.Fatalf("IntervalStep(%v, %v, %v, %d) = %v, %v, want %v", c, x, g, order, got, found, want)
		}
		if !ok {
			count["no enclosure"]++
			continue
		}
		for _, part := range []api.Interval{between(0, g.H), point(g.H)} {
			_, raw := wantEnclosure(c, x, want.Pre, during(g, part, order))
			count.countRestriction(raw, want.Pre)
		}
	}
	// A series is never disjoint from the enclosure, as the solutions are in both.
	count.check(t, 20, "no enclosure", "entire", "within", "around", "overlapping")
	if count["disjoint"] > 0 {
		t.Errorf("%d series are disjoint from the enclosure", count["disjoint"])
	}
}

func TestRandomModelSteps(t *testing.T) {
	source, count := rand.New(rand.NewSource(3)), census{}
	for range 6000 {
		c, g, order, deg := randomTape(source), randomStep(source), source.Intn(8), source.Intn(7)
		if deg > 3 {
			order = min(order, 4)
		}
		x := randomModels(source, c.N)
		models, want, ok := wantModelStep(c, x, g, order, deg)
		m, got, found := ModelStep(c, x, g, api.Expansion{T: randomInterval(source), Order: order, Deg: deg})
		if !equalSegments(got, want) || !equalModels(m, models) || ok != found {
			t.Fatalf("ModelStep(%v, %v, %v, %d, %d) = %v, %v, %v, want %v, %v", c, x, g, order, deg, m, got, found, models, want)
		}
		if !ok {
			count["no enclosure"]++
			continue
		}
		for i, m := range models {
			switch {
			case m.R == entire:
				count["unbounded"]++
			case len(m.P) > 1:
				count["polynomial"]++
			case got.To[i] == got.Pre[i]:
				count["restricted"]++
			}
		}
	}
	count.check(t, 100, "no enclosure", "unbounded", "polynomial", "restricted")
}

// widened returns a box that contains another one.
func widened(source *rand.Rand, b []api.Interval) []api.Interval {
	var l []api.Interval
	for _, a := range b {
		by := []int64{0, 1, 100, one / 4}[source.Intn(4)]
		w := between(max(a.Lo-source.Int63n(by+1), -largest), min(a.Hi+source.Int63n(by+1), largest))
		if a == entire || source.Intn(20) == 0 {
			w = entire
		}
		l = append(l, w)
	}
	return l
}
