package picard

import (
	"math/big"
	"math/rand"
	"slices"
	"testing"

	"armillary/api"
	"armillary/tape"
)

// A reference for P11.1, word by word, that has exact rationals in place of intervals
// except for the derivatives, and random arguments to compare it with.

// makeOf returns the smallest interval that contains two numbers of units in order.
func makeOf(lo, hi *big.Rat) api.Interval {
	least, _ := new(big.Int).DivMod(lo.Num(), lo.Denom(), new(big.Int))
	greatest, rest := new(big.Int).DivMod(hi.Num(), hi.Denom(), new(big.Int))
	if rest.Sign() > 0 {
		greatest.Add(greatest, big.NewInt(1))
	}
	if least.Cmp(big.NewInt(-api.Max)) <= 0 || greatest.Cmp(big.NewInt(api.Max)) >= 0 {
		return entire
	}
	return between(least.Int64(), greatest.Int64())
}

// wantComponent returns a component of an image.
func wantComponent(x, f api.Interval, h int64) api.Interval {
	if x == entire || f == entire || h >= api.Max {
		return entire
	}
	zero, duration := new(big.Rat), big.NewRat(h, one)
	lo := new(big.Rat).Mul(duration, big.NewRat(f.Lo, 1))
	hi := new(big.Rat).Mul(duration, big.NewRat(f.Hi, 1))
	if lo.Sign() > 0 {
		lo = zero
	}
	if hi.Sign() < 0 {
		hi = zero
	}
	product := makeOf(lo, hi)
	if product == entire {
		return entire
	}
	return makeOf(big.NewRat(x.Lo+product.Lo, 1), big.NewRat(x.Hi+product.Hi, 1))
}

func wantImage(c api.Tape, x, b []api.Interval, g api.TimeStep) []api.Interval {
	var want []api.Interval
	for i, f := range tape.Eval(c, b, between(g.T, g.T+g.H)) {
		want = append(want, wantComponent(x[i], f, g.H))
	}
	return want
}

func isBounded(b []api.Interval) bool { return !slices.Contains(b, entire) }

// inside reports whether b contains all of a.
func inside(a, b []api.Interval) bool {
	for i := range a {
		if a[i].Lo < b[i].Lo || a[i].Hi > b[i].Hi {
			return false
		}
	}
	return len(a) == len(b)
}

// hullOf returns the smallest box that contains two bounded ones.
func hullOf(a, b []api.Interval) []api.Interval {
	var hull []api.Interval
	for i := range a {
		hull = append(hull, between(min(a[i].Lo, b[i].Lo), max(a[i].Hi, b[i].Hi)))
	}
	return hull
}

// wider returns a bounded box whose components are inflated.
func wider(b []api.Interval) []api.Interval {
	var l []api.Interval
	for _, a := range b {
		w := 1 + (a.Hi-a.Lo)>>4
		l = append(l, makeOf(big.NewRat(a.Lo-w, 1), big.NewRat(a.Hi+w, 1)))
	}
	return l
}

// outcome is why a search ends, and in which attempt.
type outcome struct {
	why     string
	attempt int
}

// wantEnclose returns the box that a search has to find, or nil.
func wantEnclose(c api.Tape, x []api.Interval, g api.TimeStep) ([]api.Interval, outcome) {
	first := wantImage(c, x, x, g)
	if !isBounded(x) || !isBounded(first) {
		return nil, outcome{"C", 0}
	}
	hull := hullOf(x, first)
	for attempt := 1; attempt <= 8; attempt++ {
		b := wider(hull)
		if !isBounded(b) {
			return nil, outcome{"inflated", attempt}
		}
		d := wantImage(c, x, b, g)
		if !isBounded(d) {
			return nil, outcome{"D", attempt}
		}
		if inside(d, b) {
			return d, outcome{"found", attempt}
		}
		hull = hullOf(b, d)
	}
	return nil, outcome{"given up", 8}
}

// randomInterval returns a valid interval: any, of small numbers, a point, or entire.
func randomInterval(source *rand.Rand) api.Interval {
	bound := int64(1) << (1 + source.Intn(31))
	x, y := source.Int63n(2*bound-1)-bound+1, source.Int63n(2*bound-1)-bound+1
	switch source.Intn(12) {
	case 0:
		return entire
	case 1, 2, 3:
		return point(x)
	case 4, 5:
		return between(min(x, y), max(x, y))
	}
	x = source.Int63n(8*one) - 4*one
	return between(x, x+source.Int63n(int64(1)<<source.Intn(18)))
}

// randomBox returns a box of n intervals, which are bounded if they have to be.
func randomBox(source *rand.Rand, n int, finite bool) []api.Interval {
	var l []api.Interval
	for len(l) < n {
		if a := randomInterval(source); !finite || a != entire {
			l = append(l, a)
		}
	}
	return l
}

// randomStep returns a step: mostly a short one, at any time.
func randomStep(source *rand.Rand) api.TimeStep {
	h := 1 + source.Int63n(int64(1)<<(4+source.Intn(16)))
	if source.Intn(10) == 0 {
		h = 1 + source.Int63n(2*largest)
	}
	start := source.Int63n(2*largest-h+1) - largest
	switch source.Intn(8) {
	case 0:
		start = -largest
	case 1:
		start = largest - h
	case 2, 3, 4:
		start = min(max(start%(4*one), -largest), largest-h)
	}
	return api.TimeStep{T: start, H: h}
}

// leaf returns an instruction without operands.
func leaf(source *rand.Rand, n int, ops []int) api.Instruction {
	in := api.Instruction{Op: ops[source.Intn(len(ops))]}
	switch in.Op {
	case api.Num:
		in.C = randomInterval(source)
	case api.Var:
		in.A = source.Intn(n)
	}
	return in
}

// tapeWith returns a valid tape of dimension n with at most the given number of
// instructions, and no others without operands than the given ones.
func tapeWith(source *rand.Rand, n, length int, ops ...int) api.Tape {
	c := api.Tape{N: n}
	for i := range length {
		in := leaf(source, n, ops)
		if i > 0 && source.Intn(5) > 1 {
			in = api.Instruction{Op: []int{api.Neg, api.Sqr, api.Sqrt, api.Add, api.Add, api.Sub, api.Sub, api.Mul, api.Mul, api.Div}[source.Intn(10)], A: source.Intn(i)}
		}
		if in.Op >= api.Add {
			in.B = source.Intn(i)
		}
		c.L = append(c.L, in)
	}
	for range n {
		c.Out = append(c.Out, max(source.Intn(length), source.Intn(length)))
	}
	return c
}

// randomTape returns a valid tape with all kinds of instructions.
func randomTape(source *rand.Rand) api.Tape {
	return tapeWith(source, 1+source.Intn(api.MaxDim), 1+source.Intn(12), api.Num, api.Var, api.Var, api.Time)
}

// randomLinear returns a valid tape each of whose expressions is a multiple of a state
// variable, plus a constant: solutions of its system exist for all times.
func randomLinear(source *rand.Rand) api.Tape {
	c := api.Tape{N: 1 + source.Intn(3)}
	for range c.N {
		i := len(c.L)
		c.L = append(c.L,
			value(point(source.Int63n(4*one)-2*one)), do(api.Var, source.Intn(c.N)), do(api.Mul, i, i+1),
			value(point(source.Int63n(one)-one/2)), do(api.Add, i+2, i+3))
		c.Out = append(c.Out, i+4)
	}
	return c
}

// randomCase returns a tape, a bounded box and a step.
func randomCase(source *rand.Rand) (api.Tape, []api.Interval, api.TimeStep) {
	c := randomTape(source)
	if source.Intn(3) == 0 {
		c = randomLinear(source)
	}
	return c, randomBox(source, c.N, true), randomStep(source)
}

func TestRandomImages(t *testing.T) {
	source := rand.New(rand.NewSource(1))
	finite, valid, total := 0, 0, 20000
	for range total {
		c, g := randomTape(source), randomStep(source)
		x, b := randomBox(source, c.N, false), randomBox(source, c.N, false)
		want := wantImage(c, x, b, g)
		if got := Image(c, x, b, g); !slices.Equal(got, want) {
			t.Fatalf("Image(%v, %v, %v, %v) = %v, want %v", c, x, b, g, got, want)
		}
		if !isBounded(want) {
			continue
		}
		finite++
		// The smallest box that contains the image, one that misses a unit of it, and
		// the given one.
		less := slices.Clone(want)
		i := source.Intn(c.N)
		less[i].Hi = max(less[i].Hi-1, less[i].Lo)
		for _, b := range [][]api.Interval{hullOf(want, b), want, less, b} {
			holds := isBounded(wantImage(c, x, b, g)) && inside(wantImage(c, x, b, g), b)
			if got := Validates(c, x, b, g); got != holds {
				t.Fatalf("Validates(%v, %v, %v, %v) = %v", c, x, b, g, got)
			}
			if holds {
				valid++
			}
		}
	}
	if finite < total/10 || valid < total/10 {
		t.Errorf("of %d images, %d are bounded, and %d validate: these tests miss something", total, finite, valid)
	}
}

func TestRandomSearches(t *testing.T) {
	source := rand.New(rand.NewSource(2))
	count := map[outcome]int{}
	for range 60000 {
		c, x, g := randomCase(source)
		want, end := wantEnclose(c, x, g)
		if got, ok := Enclose(c, x, g); !slices.Equal(got, want) || ok != (end.why == "found") {
			t.Fatalf("Enclose(%v, %v, %v) = %v, %v, want %v, as %v", c, x, g, got, ok, want, end)
		}
		count[end]++
	}
	for attempt := range 8 {
		if n := count[outcome{"found", attempt + 1}]; n < 10 {
			t.Errorf("%d searches find a box in attempt %d: these tests miss something", n, attempt+1)
		}
	}
	for _, end := range []outcome{{"C", 0}, {"inflated", 1}, {"inflated", 2}, {"D", 1}, {"D", 2}, {"given up", 8}} {
		if count[end] < 10 {
			t.Errorf("%d searches end with %v: these tests miss something", count[end], end)
		}
	}
}
