package picard

import (
	"math"
	"math/big"
	"math/rand"
	"slices"
	"testing"

	"armillary/api"
	"armillary/tape"
)

// P11.2: a box that Enclose returns contains the start and validates.

func TestEnclosuresValidate(t *testing.T) {
	source := rand.New(rand.NewSource(11))
	found, total := 0, 20000
	for range total {
		c, x, g := randomCase(source)
		d, ok := Enclose(c, x, g)
		if !ok {
			continue
		}
		found++
		if !inside(x, d) || !isBounded(d) || !Validates(c, x, d, g) {
			t.Fatalf("Enclose(%v, %v, %v) = %v, which contains x: %v, validates: %v", c, x, g, d, inside(x, d), Validates(c, x, d, g))
		}
	}
	if found < total/3 || found > total*2/3 {
		t.Errorf("%d of %d boxes are found: these tests miss something", found, total)
	}
}

// P11.3: larger boxes have larger images, what validates does so for subsets and for
// shorter steps, and images of what validates shrink.

// widened returns a box that contains another one.
func widened(source *rand.Rand, b []api.Interval) []api.Interval {
	var l []api.Interval
	for _, a := range b {
		by := []int64{0, 1, 100, one / 4}[source.Intn(4)]
		w := between(max(a.Lo-source.Int63n(by+1), -largest), min(a.Hi+source.Int63n(by+1), largest))
		if a == entire || source.Intn(20) == 0 {
			w = entire
		}
		l = append(l, w)
	}
	return l
}

// part returns a box that a bounded one contains.
func part(source *rand.Rand, b []api.Interval) []api.Interval {
	var l []api.Interval
	for _, a := range b {
		x, y := a.Lo+source.Int63n(a.Hi-a.Lo+1), a.Lo+source.Int63n(a.Hi-a.Lo+1)
		l = append(l, []api.Interval{a, point(x), between(min(x, y), max(x, y))}[source.Intn(3)])
	}
	return l
}

func TestIsotonicity(t *testing.T) {
	source := rand.New(rand.NewSource(12))
	finite, strict, total := 0, 0, 20000
	for range total {
		c, x, g := randomCase(source)
		b := randomBox(source, c.N, false)
		if source.Intn(2) == 0 {
			b = widened(source, x)
		}
		inner := Image(c, x, b, g)
		for _, y := range [][2][]api.Interval{{widened(source, x), b}, {x, widened(source, b)}, {widened(source, x), widened(source, b)}} {
			outer := Image(c, y[0], y[1], g)
			if !inside(inner, outer) {
				t.Fatalf("the image for %v, %v, %v, %v is %v, but %v for %v", c, x, b, g, inner, outer, y)
			}
			if isBounded(outer) {
				finite++
			}
			if isBounded(outer) && !slices.Equal(inner, outer) {
				strict++
			}
		}
	}
	if finite < total/4 || strict < total/10 {
		t.Errorf("%d images are bounded, %d are strictly larger: these tests miss something", finite, strict)
	}
}

// validating returns a tape, a start, a box that validates, and a step.
func validating(t *testing.T, source *rand.Rand) (api.Tape, []api.Interval, []api.Interval, api.TimeStep) {
	t.Helper()
	for range 1000 {
		c, x, g := randomCase(source)
		b, ok := Enclose(c, x, g)
		if !ok {
			continue
		}
		switch source.Intn(3) {
		case 0:
			// A larger box, if it validates.
			if more := widened(source, b); Validates(c, x, more, g) {
				return c, x, more, g
			}
		case 1:
			// A box that has hardly any room.
			for range 20 {
				b = Image(c, x, b, g)
			}
		}
		return c, x, b, g
	}
	t.Fatal("no box is found")
	return api.Tape{}, nil, nil, api.TimeStep{}
}

func TestSubsetsValidate(t *testing.T) {
	source := rand.New(rand.NewSource(13))
	for range 5000 {
		c, x, b, g := validating(t, source)
		y, shorter := part(source, x), at(g.T, 1+source.Int63n(g.H))
		for _, h := range []api.TimeStep{g, shorter, at(g.T, 1)} {
			if !Validates(c, x, b, h) || !Validates(c, y, b, h) {
				t.Fatalf("%v validates for %v, %v, %v: %v, and for %v: %v", b, c, x, h, Validates(c, x, b, h), y, Validates(c, y, b, h))
			}
		}
	}
}

func TestImagesShrink(t *testing.T) {
	source := rand.New(rand.NewSource(14))
	smaller, total := 0, 5000
	for range total {
		c, x, b, g := validating(t, source)
		for range 4 {
			d := Image(c, x, b, g)
			if !inside(d, b) || !inside(x, d) || !Validates(c, x, d, g) {
				t.Fatalf("the image of %v for %v, %v, %v is %v, which validates: %v", b, c, x, g, d, Validates(c, x, d, g))
			}
			if !slices.Equal(d, b) {
				smaller++
			}
			b = d
		}
	}
	if smaller < total/4 {
		t.Errorf("%d images are smaller: these tests miss something", smaller)
	}
}

// P11.4: polygonal paths stay in a box that validates.

func sum(x, y *big.Rat) *big.Rat { return new(big.Rat).Add(x, y) }

func times(x, y *big.Rat) *big.Rat { return new(big.Rat).Mul(x, y) }

// units returns a number of units as a number.
func units(x int64) *big.Rat { return big.NewRat(x, one) }

// element returns an element of an interval, often one of its ends.
func element(source *rand.Rand, a api.Interval) *big.Rat {
	switch n := source.Intn(4); {
	case a == entire:
		return big.NewRat(source.Int63n(99)-49, 7)
	case n == 0:
		return units(a.Lo)
	case n == 1:
		return units(a.Hi)
	}
	return sum(units(a.Lo), times(units(a.Hi-a.Lo), big.NewRat(source.Int63n(9), 8)))
}

// pointIn returns a point of a box, often one of its corners.
func pointIn(source *rand.Rand, b []api.Interval) []*big.Rat {
	var l []*big.Rat
	for _, a := range b {
		l = append(l, element(source, a))
	}
	return l
}

// contains reports whether a point lies in a box.
func contains(b []api.Interval, l []*big.Rat) bool {
	for i, a := range b {
		if a != entire && (l[i].Cmp(units(a.Lo)) < 0 || l[i].Cmp(units(a.Hi)) > 0) {
			return false
		}
	}
	return true
}

// exact returns the value of an instruction, with any element for its constant, and
// false if it is not rational, or too long.
func exact(source *rand.Rand, in api.Instruction, l, x []*big.Rat, now *big.Rat) (*big.Rat, bool) {
	v := new(big.Rat)
	switch in.Op {
	case api.Num:
		return element(source, in.C), true
	case api.Var:
		return x[in.A], true
	case api.Time:
		return now, true
	case api.Neg:
		v.Neg(l[in.A])
	case api.Sqr:
		v.Mul(l[in.A], l[in.A])
	case api.Sqrt:
		if l[in.A].Sign() < 0 {
			return nil, false
		}
		v.SetFrac(new(big.Int).Sqrt(l[in.A].Num()), new(big.Int).Sqrt(l[in.A].Denom()))
		return v, times(v, v).Cmp(l[in.A]) == 0
	case api.Add:
		v.Add(l[in.A], l[in.B])
	case api.Sub:
		v.Sub(l[in.A], l[in.B])
	case api.Mul:
		v.Mul(l[in.A], l[in.B])
	case api.Div:
		if l[in.B].Sign() == 0 {
			return nil, false
		}
		v.Quo(l[in.A], l[in.B])
	}
	return v, v.Num().BitLen()+v.Denom().BitLen() < 2000
}

// slopesAt returns the exact right-hand side at a point and a time, and false if it
// is not known.
func slopesAt(source *rand.Rand, c api.Tape, x []*big.Rat, now *big.Rat) ([]*big.Rat, bool) {
	var l, slopes []*big.Rat
	for _, in := range c.L {
		v, ok := exact(source, in, l, x, now)
		if !ok {
			return nil, false
		}
		l = append(l, v)
	}
	for _, i := range c.Out {
		slopes = append(slopes, l[i])
	}
	return slopes, true
}

// walk is a path on a step, in a box that validates.
type walk struct {
	c api.Tape
	b []api.Interval
	g api.TimeStep
	// elapsed is the time since the start.
	elapsed  *big.Rat
	position []*big.Rat
}

// slopes returns slopes in the range of the right-hand side: those of a solution,
// those at another point and time, or any in an enclosure of the range.
func (w *walk) slopes(source *rand.Rand) ([]*big.Rat, bool) {
	during := between(w.g.T, w.g.T+w.g.H)
	switch source.Intn(3) {
	case 0:
		return slopesAt(source, w.c, w.position, sum(units(w.g.T), w.elapsed))
	case 1:
		return slopesAt(source, w.c, pointIn(source, w.b), element(source, during))
	}
	return pointIn(source, tape.Eval(w.c, w.b, during)), true
}

// proceed goes on with a slope for a duration.
func (w *walk) proceed(slopes []*big.Rat, duration *big.Rat) {
	w.elapsed = sum(w.elapsed, duration)
	for i, m := range slopes {
		w.position[i] = sum(w.position[i], times(m, duration))
	}
}

func TestPaths(t *testing.T) {
	source := rand.New(rand.NewSource(15))
	pieces, ends, total := 0, 0, 10000
	for range total {
		c, x, b, g := validating(t, source)
		w := walk{c, b, g, new(big.Rat), pointIn(source, x)}
		d := Image(c, x, b, g)
		// The parts of the step make up all of it, or leave something.
		var parts []int64
		all := source.Int63n(2)
		for range 1 + source.Intn(4) {
			parts = append(parts, 1+source.Int63n(3))
			all += parts[len(parts)-1]
		}
		for _, n := range parts {
			slopes, ok := w.slopes(source)
			if !ok {
				break
			}
			pieces++
			w.proceed(slopes, times(units(g.H), big.NewRat(n, all)))
			if w.elapsed.Cmp(units(g.H)) > 0 || !contains(b, w.position) || !contains(d, w.position) {
				t.Fatalf("a path for %v, %v, %v leaves %v with the image %v: it is at %v", c, x, g, b, d, w.position)
			}
		}
		for i, a := range d {
			if w.position[i].Cmp(units(a.Lo+1)) <= 0 || w.position[i].Cmp(units(a.Hi-1)) >= 0 {
				ends++
			}
		}
	}
	if pieces < total || ends < total/10 {
		t.Errorf("paths have %d pieces, and %d ends near the end of an image: these tests miss something", pieces, ends)
	}
}

// TestSolutions has systems with known solutions: theorem T1 for boxes.
func TestSolutions(t *testing.T) {
	source := rand.New(rand.NewSource(16))
	for _, y := range []struct {
		text string
		// at returns the solution that starts in x at the time start, after a duration h.
		at func(x []float64, start, h float64) []float64
	}{
		{"x'=-3", func(x []float64, _, h float64) []float64 { return []float64{x[0] - 3*h} }},
		{"x'=t", func(x []float64, start, h float64) []float64 { return []float64{x[0] + start*h + h*h/2} }},
		{"x'=x", func(x []float64, _, h float64) []float64 { return []float64{x[0] * math.Exp(h)} }},
		{"x'=2-x", func(x []float64, _, h float64) []float64 { return []float64{2 + (x[0]-2)*math.Exp(-h)} }},
		{"x'=t*x", func(x []float64, start, h float64) []float64 { return []float64{x[0] * math.Exp(start*h+h*h/2)} }},
		{"x'=sqr(x)", func(x []float64, _, h float64) []float64 { return []float64{x[0] / (1 - x[0]*h)} }},
		{"x'=1/x", func(x []float64, _, h float64) []float64 {
			return []float64{math.Copysign(math.Sqrt(x[0]*x[0]+2*h), x[0])}
		}},
		{"x'=sqrt(x)", func(x []float64, _, h float64) []float64 {
			root := math.Sqrt(x[0]) + h/2
			return []float64{root * root}
		}},
		{"x'=v\nv'=-x", func(x []float64, _, h float64) []float64 {
			return []float64{x[0]*math.Cos(h) + x[1]*math.Sin(h), x[1]*math.Cos(h) - x[0]*math.Sin(h)}
		}},
		{"x'=v\nv'=w\nw'=6", func(x []float64, _, h float64) []float64 {
			return []float64{x[0] + h*(x[1]+h*(x[2]/2+h)), x[1] + h*(x[2]+3*h), x[2] + 6*h}
		}},
	} {
		c, found := compiled(t, y.text), 0
		for range 500 {
			x, g := randomBox(source, c.N, true), at(source.Int63n(8*one)-4*one, 1+source.Int63n(one))
			b, ok := Enclose(c, x, g)
			if !ok {
				continue
			}
			found++
			var start []float64
			for _, a := range pointIn(source, x) {
				v, _ := a.Float64()
				start = append(start, v)
			}
			for k := range 9 {
				for i, v := range y.at(start, float64(g.T)/one, float64(g.H)/one*float64(k)/8) {
					// Less than a thousandth of a unit is the error of the floats.
					if v *= one; v < float64(b[i].Lo)-0.001 || v > float64(b[i].Hi)+0.001 {
						t.Fatalf("Enclose(%q, %v, %v) = %v, but after %d/8 of it a solution is at %v", y.text, x, g, b, k, v)
					}
				}
			}
		}
		if found < 50 {
			t.Errorf("only %d boxes are found for %q", found, y.text)
		}
	}
}

// P11.5: right-hand sides without state variables, and without the time.

func TestWithoutVariables(t *testing.T) {
	source := rand.New(rand.NewSource(17))
	found, failed, total := 0, 0, 10000
	for range total {
		c := tapeWith(source, 1+source.Intn(api.MaxDim), 1+source.Intn(8), api.Num, api.Time)
		x, b, g := randomBox(source, c.N, true), randomBox(source, c.N, false), randomStep(source)
		want := Image(c, x, x, g)
		if other := Image(c, x, b, g); !slices.Equal(other, want) {
			t.Fatalf("the image for %v, %v, %v is %v, but that of %v is %v", c, x, g, want, b, other)
		}
		bounded := isBounded(want) && isBounded(wider(want))
		if bounded {
			found++
		} else {
			failed++
			want = nil
		}
		if got, ok := Enclose(c, x, g); !slices.Equal(got, want) || ok != bounded {
			t.Fatalf("Enclose(%v, %v, %v) = %v, %v, want %v", c, x, g, got, ok, want)
		}
	}
	if found < total/5 || failed < total/5 {
		t.Errorf("%d boxes are found, %d are not: these tests miss something", found, failed)
	}
}

func TestWithoutTime(t *testing.T) {
	source := rand.New(rand.NewSource(18))
	found, failed, total := 0, 0, 5000
	for range total {
		c := tapeWith(source, 1+source.Intn(api.MaxDim), 1+source.Intn(8), api.Num, api.Var, api.Var)
		x, g := randomBox(source, c.N, true), randomStep(source)
		b := widened(source, x)
		image, valid := Image(c, x, b, g), Validates(c, x, b, g)
		d, ok := Enclose(c, x, g)
		if ok {
			found++
		} else {
			failed++
		}
		for _, start := range []int64{-largest, largest - g.H, -g.H / 2, source.Int63n(2*largest-g.H+1) - largest} {
			h := at(start, g.H)
			e, still := Enclose(c, x, h)
			if !slices.Equal(Image(c, x, b, h), image) || Validates(c, x, b, h) != valid || !slices.Equal(e, d) || still != ok {
				t.Fatalf("for %v, %v, %v: %v, %v, %v, but at %v: %v, %v, %v", c, x, b, image, valid, d, h, Image(c, x, b, h), Validates(c, x, b, h), e)
			}
		}
	}
	if found < total/5 || failed < total/5 {
		t.Errorf("%d boxes are found, %d are not: these tests miss something", found, failed)
	}
}
