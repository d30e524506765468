package flow

import (
	"math/big"
	"math/rand"
	"slices"
	"testing"

	"armillary/api"
	"armillary/box"
	"armillary/control"
	"armillary/interval"
	"armillary/picard"
)

// P14.2: flows are valid, and go from the start of the horizon to its end; each segment
// starts in the final box of the one before it, and their boxes are subsets of others.

// checkStructure checks that a flow is right for a box and a horizon.
func checkStructure(t *testing.T, p api.Tape, x []api.Interval, w api.Horizon, l []api.Segment) {
	t.Helper()
	_, last, ok := End(l)
	if !Valid(l) || !wantValid(l) || l[0].T != w.T || last != w.Last || !ok {
		t.Fatalf("Integrate(%v, %v, %v) = %v", p, x, w, l)
	}
	b := x
	for _, s := range l {
		if !slices.Equal(s.From, b) || !box.Subset(s.From, s.Tube) || !box.Subset(s.To, s.Tube) || !box.Subset(s.Tube, s.Pre) {
			t.Fatalf("Integrate(%v, %v, %v) has %v behind %v", p, x, w, s, b)
		}
		if !control.Accept(w.Ctrl, s) || !picard.Validates(p, s.From, s.Pre, api.TimeStep{T: s.T, H: s.H}) {
			t.Fatalf("Integrate(%v, %v, %v) has %v", p, x, w, s)
		}
		b = s.To
	}
}

func TestStructure(t *testing.T) {
	source, count := rand.New(rand.NewSource(11)), census{}
	for range 4000 {
		p, w := randomTape(source), randomHorizon(source)
		x := randomBox(source, p.N)
		l, err := Integrate(p, x, w)
		if err != api.OK {
			count["none"]++
			continue
		}
		checkStructure(t, p, x, w, l)
		differ := slices.ContainsFunc(l, func(s api.Segment) bool {
			return !slices.Equal(s.From, s.Tube) && !slices.Equal(s.To, s.Tube) && !slices.Equal(s.Tube, s.Pre)
		})
		count.add(map[string]bool{"one segment": len(l) == 1, "several segments": len(l) > 1, "boxes that differ": differ, "six coordinates": p.N == 6, "one coordinate": p.N == 1})
	}
	count.check(t, 100, "none", "one segment", "several segments", "boxes that differ", "six coordinates", "one coordinate")
}

// TestValidValues checks that what comes from valid arguments is valid: P3 of the document.
func TestValidValues(t *testing.T) {
	l := []api.Interval{entire, point(0), point(1), point(-1), point(largest), point(-largest), between(-largest, largest), between(-1, 1), between(0, largest), between(-one, 0), between(one, 4*one)}
	horizons := []api.Horizon{during(sized(1, 1, 1), 0, 1), during(sized(1, largest, largest), -largest, 0), during(sized(1, one, largest), -largest, 9*one-largest), during(sized(16, one/4, one), -one, 3*one), during(narrow(5, 1, 1, 1), 0, 99)}
	count := census{}
	for _, a := range l {
		for _, b := range l {
			for _, p := range []api.Tape{compiled(t, "x'=v\nv'=-x*t"), compiled(t, "x'=sqr(v)\nv'=1"), compiled(t, "x'=0\nv'=[-1,1]"), compiled(t, "x'=sqrt(x)/v\nv'=all")} {
				for _, w := range horizons {
					segments, err := Integrate(p, of(a, b), w)
					switch {
					case err == api.OK && Valid(segments):
						count["flows"]++
						checkValidQueries(t, segments, w)
					case (err == api.ErrStep || err == api.ErrBudget) && segments == nil:
						count["none"]++
					default:
						t.Fatalf("Integrate(%v, %v, %v) = %v, %v", p, of(a, b), w, segments, err)
					}
				}
			}
		}
	}
	count.check(t, 100, "flows", "none")
}

// checkValidQueries checks that the queries for the times of a horizon have valid results.
func checkValidQueries(t *testing.T, l []api.Segment, w api.Horizon) {
	t.Helper()
	for _, at := range []int64{w.T, w.T + 1, w.Last - 1, w.Last} {
		b, ok := At(l, at)
		d, is := During(l, between(at, w.Last))
		if !ok || !is || !box.Valid(b) || !box.Valid(d) {
			t.Fatalf("of %v: %v at %d, %v since then", l, b, at, d)
		}
	}
	for _, y := range Items(1, l) {
		if !interval.Valid(y.T) || !box.Valid(y.Box) {
			t.Fatalf("an item of %v is %v", l, y)
		}
	}
}

// P14.3: exact solutions lie in the boxes that At and During return.

// solution is a system with known polynomial solutions.
type solution struct {
	text string
	x    []api.Interval
	// at returns the solution that starts in x at the time start, after a duration h.
	at func(x []*big.Rat, start, h *big.Rat) []*big.Rat
}

// sum returns the sum of products.
func sum(l ...[]*big.Rat) *big.Rat {
	total := new(big.Rat)
	for _, factors := range l {
		product := big.NewRat(1, 1)
		for _, x := range factors {
			product.Mul(product, x)
		}
		total.Add(total, product)
	}
	return total
}

// times returns a list of factors.
func times(l ...*big.Rat) []*big.Rat { return l }

func ratio(n, d int64) *big.Rat { return big.NewRat(n, d) }

// chain returns the solution of a system in which each variable but the last one is the
// integral of the next, and the derivative of the last one is a constant.
func chain(a int64) func(x []*big.Rat, start, h *big.Rat) []*big.Rat {
	return func(x []*big.Rat, _, h *big.Rat) []*big.Rat {
		derivatives := append(slices.Clone(x), ratio(a, 1))
		l := make([]*big.Rat, len(x))
		for i := range x {
			l[i] = new(big.Rat)
			factor := ratio(1, 1)
			for k, d := range derivatives[i:] {
				l[i] = sum(times(l[i]), times(d, factor))
				factor = sum(times(factor, h, ratio(1, int64(k)+1)))
			}
		}
		return l
	}
}

func solutions() []solution {
	line := func(slopes ...int64) func(x []*big.Rat, _, h *big.Rat) []*big.Rat {
		return func(x []*big.Rat, _, h *big.Rat) []*big.Rat {
			var l []*big.Rat
			for i, slope := range slopes {
				l = append(l, sum(times(x[i]), times(ratio(slope, 1), h)))
			}
			return l
		}
	}
	return []solution{
		{"x'=0", of(between(-one, one)), line(0)},
		{"x'=1", of(point(0)), line(1)},
		{"x'=-3", of(between(-5, 70)), line(-3)},
		{"a'=5\nb'=-3\nc'=1\nd'=-6\ne'=2\nf'=4", of(point(5), whole(0, 1), between(-7, -3), whole(-1, 1), point(0), point(-one)), line(5, -3, 1, -6, 2, 4)},
		{"x'=t", of(between(-one, one/3)), func(x []*big.Rat, start, h *big.Rat) []*big.Rat {
			return times(sum(times(x[0]), times(start, h), times(h, h, ratio(1, 2))))
		}},
		{"x'=2*t-7", of(point(one)), func(x []*big.Rat, start, h *big.Rat) []*big.Rat {
			return times(sum(times(x[0]), times(ratio(2, 1), start, h), times(h, h), times(ratio(-7, 1), h)))
		}},
		{"x'=y\ny'=2", of(between(-9, 9), between(-one, one)), chain(2)},
		{"x'=y\ny'=-5", of(point(-one), point(3*one)), chain(-5)},
		{"a'=b\nb'=c\nc'=1", of(whole(0, 1), point(-one), between(-one/2, 77)), chain(1)},
		{"a'=b\nb'=c\nc'=d\nd'=e\ne'=f\nf'=-3", of(whole(0, 1), point(-one), between(-one/2, 77), point(99), whole(-1, 0), whole(1, 1)), chain(-3)},
		{"x'=y+t\ny'=-1", of(between(3, 9999), between(-one, one)), func(x []*big.Rat, start, h *big.Rat) []*big.Rat {
			return times(sum(times(x[0]), times(x[1], h), times(start, h)), sum(times(x[1]), times(ratio(-1, 1), h)))
		}},
	}
}

// inUnits returns the number that x units are.
func inUnits(x int64) *big.Rat { return ratio(x, one) }

// holds reports whether a box contains a state.
func holds(b []api.Interval, x []*big.Rat) bool {
	for i, a := range b {
		if inUnits(a.Lo).Cmp(x[i]) > 0 || inUnits(a.Hi).Cmp(x[i]) < 0 {
			return false
		}
	}
	return len(b) == len(x)
}

// randomState returns a state in a box, often at its boundary.
func randomState(source *rand.Rand, b []api.Interval) []*big.Rat {
	var l []*big.Rat
	for _, a := range b {
		x := []int64{a.Lo, a.Hi, a.Lo + source.Int63n(a.Hi-a.Lo+1)}[source.Intn(3)]
		l = append(l, inUnits(x))
	}
	return l
}

// moments returns the boundaries of a flow, and times in between.
func moments(source *rand.Rand, l []api.Segment) []int64 {
	found := []int64{l[0].T}
	for _, s := range l {
		found = append(found, s.T+source.Int63n(s.H), s.T+s.H)
	}
	return found
}

func TestSolutions(t *testing.T) {
	source := rand.New(rand.NewSource(12))
	for _, y := range solutions() {
		p, most := compiled(t, y.text), 0
		for range 12 {
			start := source.Int63n(8*one) - 4*one
			c := sized(16, one/8, one/4<<source.Intn(3))
			c.Order = 1 + source.Intn(7)
			w := during(c, start, start+1+source.Int63n(3*one))
			l, err := Integrate(p, y.x, w)
			if err != api.OK {
				t.Fatalf("Integrate(%q, %v, %v) fails: %v", y.text, y.x, w, err)
			}
			checkStructure(t, p, y.x, w, l)
			checkSolutions(t, source, y, w, l)
			most = max(most, len(l))
		}
		if most < 5 {
			t.Errorf("the longest flow of %q has %d segments: these tests miss something", y.text, most)
		}
	}
}

// checkSolutions checks that some solutions lie in a flow at many times.
func checkSolutions(t *testing.T, source *rand.Rand, y solution, w api.Horizon, l []api.Segment) {
	t.Helper()
	for range 4 {
		x := randomState(source, y.x)
		for _, at := range moments(source, l) {
			state := y.at(x, inUnits(w.T), inUnits(at-w.T))
			b, ok := At(l, at)
			if !ok || !holds(b, state) {
				t.Fatalf("%q with %v: at %d is %v, but the box %v, %v", y.text, w, at, state, b, ok)
			}
			for _, in := range []api.Interval{point(at), between(max(at-source.Int63n(one), -largest), min(at+source.Int63n(one), largest)), between(at, largest), between(-largest, at), entire} {
				if d, ok := During(l, in); !ok || !holds(d, state) {
					t.Fatalf("%q with %v: at %d is %v, but in %v the box %v, %v", y.text, w, at, state, in, d, ok)
				}
			}
		}
	}
}

// TestAllTimes follows solutions for every time of a short horizon.
func TestAllTimes(t *testing.T) {
	for _, y := range solutions() {
		for _, start := range []int64{0, -100, 2 * one} {
			w := during(sized(1, 7, 64), start, start+300)
			l, err := Integrate(compiled(t, y.text), y.x, w)
			if err != api.OK || len(l) < 5 {
				t.Fatalf("Integrate(%q, %v, %v) = %v, %v", y.text, y.x, w, l, err)
			}
			var low, high []*big.Rat
			for _, a := range y.x {
				low, high = append(low, inUnits(a.Lo)), append(high, inUnits(a.Hi))
			}
			for at := w.T; at <= w.Last; at++ {
				b, ok := At(l, at)
				d, is := During(l, point(at))
				for _, x := range [][]*big.Rat{low, high} {
					state := y.at(x, inUnits(w.T), inUnits(at-w.T))
					if !ok || !is || !holds(b, state) || !holds(d, state) {
						t.Fatalf("%q with %v: at %d is %v, but the boxes are %v and %v", y.text, w, at, state, b, d)
					}
				}
			}
		}
	}
}

// P14.4: the box at a time is a subset of those in intervals that contain it, a longer
// interval has a larger box, and overlapping intervals have those of their union; items
// have no gaps.

// flows returns flows that Integrate returns, and their horizons.
func flows(t *testing.T, source *rand.Rand, n int) [][]api.Segment {
	t.Helper()
	var found [][]api.Segment
	for range 100 * n {
		p, w := randomTape(source), randomHorizon(source)
		if l, err := Integrate(p, randomBox(source, p.N), w); err == api.OK {
			found = append(found, l)
		}
		if len(found) == n {
			return found
		}
	}
	t.Fatal("too few flows: these tests miss something")
	return nil
}

func TestBoxesOfTimes(t *testing.T) {
	source, count := rand.New(rand.NewSource(13)), census{}
	for _, l := range flows(t, source, 500) {
		for range 20 {
			in := randomTimes(source, l)
			d, is := During(l, in)
			for range 5 {
				at := randomTime(source, l)
				b, ok := At(l, at)
				if ok && interval.Contains(in, at) {
					if !is || !box.Subset(b, d) {
						t.Fatalf("of %v: %v at %d, %v in %v", l, b, at, d, in)
					}
					count["inside"]++
				}
				if _, point := During(l, point(at)); point != ok {
					t.Fatalf("of %v: %v at %d, but %v then", l, ok, at, point)
				}
			}
		}
	}
	count.check(t, 5000, "inside")
}

func TestMonotonicity(t *testing.T) {
	source, count := rand.New(rand.NewSource(14)), census{}
	for _, l := range flows(t, source, 500) {
		for range 20 {
			a, b := randomTimes(source, l), randomTimes(source, l)
			small, ok := During(l, a)
			large, is := During(l, interval.Hull(a, b))
			if ok && (!is || !box.Subset(small, large)) {
				t.Fatalf("of %v: %v in %v, %v in %v", l, small, a, large, interval.Hull(a, b))
			}
			if _, overlap := interval.Intersect(a, b); !overlap {
				continue
			}
			other, too := During(l, b)
			count.add(map[string]bool{"overlapping": true, "one only": ok != too, "larger": ok && is && !slices.Equal(small, large)})
			switch {
			case ok && too && !slices.Equal(large, box.Hull(small, other)), ok && !too && !slices.Equal(large, small), !ok && too && !slices.Equal(large, other), !ok && !too && is:
				t.Fatalf("of %v: %v in %v, %v in %v, %v in %v", l, small, a, other, b, large, interval.Hull(a, b))
			}
		}
	}
	count.check(t, 20, "overlapping", "one only", "larger")
	count.check(t, 1000, "overlapping", "larger")
}

func TestItemsHaveNoGaps(t *testing.T) {
	source := rand.New(rand.NewSource(15))
	for _, l := range flows(t, source, 500) {
		items := Items(7, l)
		_, last, _ := End(l)
		now := l[0].T
		for _, y := range items {
			if y.T.Lo != now || y.T.Hi <= now || y.Id != 7 {
				t.Fatalf("Items(%v) = %v", l, items)
			}
			now = y.T.Hi
			// Each time of it has its box there, too.
			at := y.T.Lo + source.Int63n(y.T.Hi-y.T.Lo+1)
			if b, ok := At(l, at); !ok || !box.Subset(b, y.Box) {
				t.Fatalf("of %v: %v at %d, in the item %v", l, b, at, y)
			}
		}
		if now != last {
			t.Fatalf("Items(%v) = %v", l, items)
		}
	}
}
