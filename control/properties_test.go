package control

import (
	"math"
	"math/rand"
	"slices"
	"testing"

	"armillary/api"
	"armillary/box"
	"armillary/picard"
)

// P13.2: segments start in time and in the box, end in time, are accepted, and have the
// boxes of a validated step.

func TestSegmentsOfRequests(t *testing.T) {
	source, count := rand.New(rand.NewSource(11)), census{}
	for range 20000 {
		p, w := randomTape(source), randomRequest(source)
		x := randomBox(source, p.N)
		s, _, err := Advance(p, x, w)
		if err != api.OK {
			count["none"]++
			continue
		}
		if s.T != w.T || !slices.Equal(s.From, x) || s.H < 1 || s.H > w.H || s.T+s.H > w.Last || !Accept(w.Ctrl, s) {
			t.Fatalf("Advance(%v, %v, %v) = %v", p, x, w, s)
		}
		if !box.Subset(s.To, s.Tube) || !box.Subset(s.Tube, s.Pre) || !box.Subset(s.From, s.Tube) || !picard.Validates(p, x, s.Pre, api.TimeStep{T: s.T, H: s.H}) {
			t.Fatalf("Advance(%v, %v, %v) = %v", p, x, w, s)
		}
		switch {
		case s.T+s.H == w.Last:
			count["until the end"]++
		case s.H == w.H:
			count["all of it"]++
		default:
			count["less"]++
		}
		if !slices.Equal(s.Tube, s.Pre) && !slices.Equal(s.To, s.Tube) {
			count["boxes that differ"]++
		}
	}
	count.check(t, 1000, "none", "until the end", "all of it", "less", "boxes that differ")
}

// solution is a system with a known solution.
type solution struct {
	text string
	x    []api.Interval
	// at returns the solution that starts in x at the time start, after a duration h.
	at func(x []float64, start, h float64) []float64
}

func solutions() []solution {
	return []solution{
		{"x'=3", of(whole(-2, -2)), func(x []float64, _, h float64) []float64 { return []float64{x[0] + 3*h} }},
		{"x'=t", of(whole(1, 1)), func(x []float64, start, h float64) []float64 { return []float64{x[0] + start*h + h*h/2} }},
		{"x'=x", of(whole(1, 1)), func(x []float64, _, h float64) []float64 { return []float64{x[0] * math.Exp(h)} }},
		{"x'=2-x", of(whole(7, 7)), func(x []float64, _, h float64) []float64 { return []float64{2 + (x[0]-2)*math.Exp(-h)} }},
		{"x'=1/x", of(whole(1, 1)), func(x []float64, _, h float64) []float64 { return []float64{math.Sqrt(x[0]*x[0] + 2*h)} }},
		{"x'=sqrt(x)", of(whole(2, 2)), func(x []float64, _, h float64) []float64 {
			root := math.Sqrt(x[0]) + h/2
			return []float64{root * root}
		}},
		{"x'=v\nv'=-x", of(whole(0, 0), whole(1, 1)), func(x []float64, _, h float64) []float64 {
			return []float64{x[0]*math.Cos(h) + x[1]*math.Sin(h), x[1]*math.Cos(h) - x[0]*math.Sin(h)}
		}},
	}
}

// tolerance is how far off, in units, floats may be.
const tolerance = 0.001

// holds reports whether a box contains a state in units, or would with a tolerance.
func holds(b []api.Interval, x []float64) bool {
	for i, a := range b {
		if x[i]*one < float64(a.Lo)-tolerance || x[i]*one > float64(a.Hi)+tolerance {
			return false
		}
	}
	return true
}

// TestSolutions follows known solutions from step to step, each with the size that the
// one before it proposes.
func TestSolutions(t *testing.T) {
	source := rand.New(rand.NewSource(12))
	for _, y := range solutions() {
		p, ends := compiled(t, y.text), 0
		for range 100 {
			c := api.StepControl{Order: 2 + source.Intn(6), Least: 1 + source.Int63n(16), First: one / 16, Most: one / 2, Wide: one/16 + source.Int63n(one)}
			start := source.Int63n(8*one) - 4*one
			w := ask(c, start, start+1+source.Int63n(2*one), 0)
			w.H = Initial(c, w.Last-w.T)
			var first []float64
			for _, a := range y.x {
				first = append(first, float64(a.Lo)/one)
			}
			after := func(now int64) []float64 {
				return y.at(first, float64(start)/one, float64(now-start)/one)
			}
			x := y.x
			for w.T < w.Last {
				s, next, err := Advance(p, x, w)
				if err != api.OK {
					// A box may get too wide for a long time, but not for all.
					break
				}
				if !holds(s.From, after(s.T)) || !holds(s.Tube, after(s.T)) || !holds(s.Tube, after(s.T+s.H/3)) || !holds(s.Tube, after(s.T+s.H)) || !holds(s.To, after(s.T+s.H)) {
					t.Fatalf("the step of %q for %v is %v, but a solution goes from %v to %v", y.text, w, s, after(s.T), after(s.T+s.H))
				}
				w.T, w.H, x = s.T+s.H, next, s.To
			}
			if w.T == w.Last {
				ends++
			}
		}
		if ends < 90 {
			t.Errorf("only %d of 100 solutions of %q end in time: these tests miss something", ends, y.text)
		}
	}
}

// P13.3: the step is the first one in the sequence of candidates that is accepted.

func TestGreediness(t *testing.T) {
	source, count := rand.New(rand.NewSource(13)), census{}
	for range 10000 {
		p, w := randomTape(source), randomRequest(source)
		x := randomBox(source, p.N)
		s, _, err := Advance(p, x, w)
		accepted := func(h int64) bool {
			u, ok := stepper(p, x, w)(h)
			return ok && Accept(w.Ctrl, u)
		}
		h := min(w.H, w.Last-w.T)
		for n := 0; h != s.H; n++ {
			if h == 0 || accepted(h) {
				t.Fatalf("Advance(%v, %v, %v) = %v, %v, but not of length %d", p, x, w, s, err, h)
			}
			if h /= 2; h < w.Ctrl.Least {
				h = 0
			}
			if n == 1 {
				count["after some others"]++
			}
		}
		if (h == 0) != (err == api.ErrStep) || h > 0 && !accepted(h) {
			t.Fatalf("Advance(%v, %v, %v) = %v, %v", p, x, w, s, err)
		}
		if h == 0 {
			count["none"]++
		}
	}
	count.check(t, 1000, "none", "after some others")
}

// P13.4: sizes are within the limits, and shrinking ends soon.

// randomSize returns a size: any, or one close to a limit.
func randomSize(source *rand.Rand, c api.StepControl) int64 {
	near := []int64{c.Least, 2 * c.Least, c.First, c.Most, c.Most / 2, upTo(source, 31)}[source.Intn(6)]
	return min(max(near+source.Int63n(5)-2, 1), largest)
}

func TestSizes(t *testing.T) {
	source, count := rand.New(rand.NewSource(14)), census{}
	for range 100000 {
		c := randomControl(source)
		if !Valid(c) {
			t.Fatalf("%v is not valid", c)
		}
		h := randomSize(source, c)
		first := Initial(c, h)
		if first < 1 || first > h || first > c.First || first != h && first != c.First {
			t.Fatalf("Initial(%v, %d) = %d", c, h, first)
		}
		if h >= c.Least && first < c.Least {
			t.Fatalf("Initial(%v, %d) = %d", c, h, first)
		}
		more := Grow(c, h)
		if more < 1 || more > c.Most || h <= c.Most && more < h || more != 2*h && more != c.Most {
			t.Fatalf("Grow(%v, %d) = %d", c, h, more)
		}
		half, err := Shrink(c, h)
		switch {
		case err == api.OK && (half < c.Least || 2*half != h && 2*half != h-1):
			t.Fatalf("Shrink(%v, %d) = %d", c, h, half)
		case err != api.OK && (err != api.ErrStep || half != 0 || h >= 2*c.Least):
			t.Fatalf("Shrink(%v, %d) = %d, %v", c, h, half, err)
		case err == api.OK && h <= c.Most && Grow(c, half) != h && Grow(c, half) != h-1:
			t.Fatalf("Grow(%v, %d) = %d, for half of %d", c, half, Grow(c, half), h)
		case half == c.Least:
			count["equal to Least"]++
		case h == 2*c.Least-1:
			count["just below Least"]++
		}
		if more == c.Most && 2*h == c.Most {
			count["equal to Most"]++
		} else if more == c.Most && 2*h == c.Most+1 {
			count["just above Most"]++
		}
	}
	count.check(t, 1000, "equal to Least", "just below Least", "equal to Most", "just above Most")
}

// shrinks returns how often a size is shrunk until it fails, and stops at 99.
func shrinks(c api.StepControl, h int64) int {
	for n := 1; n < 99; n++ {
		less, err := Shrink(c, h)
		if err != api.OK {
			return n
		}
		h = less
	}
	return 99
}

func TestRepeatedShrinking(t *testing.T) {
	for _, y := range []struct {
		least, h int64
		want     int
	}{{1, largest, 31}, {1, 1 << 30, 31}, {1, 1<<30 - 1, 30}, {1, 1, 1}, {1, 2, 2}, {1, 3, 2}, {1, 4, 3}, {2, largest, 30}, {1024, largest, 21}, {1024, 1024, 1}, {1024, 2048, 2}, {largest, largest, 1}, {1 << 30, largest, 1}, {1<<30 - 1, largest, 2}} {
		if got := shrinks(sized(y.least, largest, largest), y.h); got != y.want {
			t.Errorf("%d is shrunk %d times with Least %d, want %d", y.h, got, y.least, y.want)
		}
	}
	source := rand.New(rand.NewSource(15))
	for range 20000 {
		c, h := randomControl(source), upTo(source, 31)
		if n := shrinks(c, h); n > 31 {
			t.Fatalf("%d is shrunk %d times with %v", h, n, c)
		}
		// Grown again and again, sizes come to the greatest.
		for range 31 {
			h = Grow(c, h)
		}
		if h != c.Most {
			t.Fatalf("the size is %d in the end, with %v", h, c)
		}
	}
}

// P13.5: steps are not longer with a smaller limit Wide or a larger limit Least.

func TestMonotonicity(t *testing.T) {
	source, count := rand.New(rand.NewSource(16)), census{}
	for range 10000 {
		p, w := randomTape(source), randomRequest(source)
		x := randomBox(source, p.N)
		s, next, err := Advance(p, x, w)
		narrow, coarse := w, w
		narrow.Ctrl.Wide -= source.Int63n(w.Ctrl.Wide)
		coarse.Ctrl.Least += source.Int63n(w.Ctrl.First - w.Ctrl.Least + 1)
		if err == api.OK && source.Intn(2) == 0 {
			// The width of this tube is just too much, and its length just too little.
			narrow.Ctrl.Wide = max(min(w.Ctrl.Wide, box.Width(s.Tube)-1), 1)
			coarse.Ctrl.Least = min(max(w.Ctrl.Least, s.H+1), w.Ctrl.First)
		}
		for kind, r := range map[string]api.StepRequest{"narrow": narrow, "coarse": coarse} {
			u, then, fails := Advance(p, x, r)
			if u.H > s.H || fails == api.OK && err != api.OK || then > next && u.H < s.H {
				t.Fatalf("Advance(%v, %v, %v) = %v, %d, %v, but with %v %v, %d, %v", p, x, w, s, next, err, r, u, then, fails)
			}
			switch {
			case u.H == s.H && (!equalSegments(u, s) || then != next):
				t.Fatalf("Advance(%v, %v, %v) = %v, %d, but with %v %v, %d", p, x, w, s, next, r, u, then)
			case u.H == s.H:
				count[kind+" equal"]++
			case fails != api.OK:
				count[kind+" none"]++
			case kind == "coarse":
				t.Fatalf("Advance(%v, %v, %v) = %v, but with %v %v", p, x, w, s, r, u)
			default:
				count[kind+" shorter"]++
			}
		}
	}
	count.check(t, 200, "narrow equal", "narrow none", "narrow shorter", "coarse equal", "coarse none")
}

// TestOneRequest has one request with ever narrower and ever larger limits.
func TestOneRequest(t *testing.T) {
	p, x := compiled(t, "x'=1"), of(point(0))
	length := func(least, wide int64) int64 {
		s, _, _ := Advance(p, x, ask(limited(least, wide), 0, one, one))
		return s.H
	}
	for _, y := range []struct{ least, wide, want int64 }{
		{16, one, one}, {16, one - 1, one / 2}, {16, one / 2, one / 2}, {16, one/2 - 1, one / 4}, {16, 100, 64}, {16, 64, 64}, {16, 63, 32}, {16, 31, 16}, {16, 16, 16}, {16, 15, 0}, {16, 1, 0},
		{1, 63, 32}, {31, 63, 32}, {32, 63, 32}, {33, 63, 0}, {32768, 63, 0}, {32768, one, one}, {32768, one / 2, one / 2}, {32768, one/2 - 1, 0},
	} {
		if got := length(y.least, y.wide); got != y.want {
			t.Errorf("the step with Least %d and Wide %d has the length %d, want %d", y.least, y.wide, got, y.want)
		}
	}
	last := int64(one)
	for wide := int64(2 * one); wide > 0; wide -= 37 {
		h := length(16, wide)
		if h > last || h > wide || h == 0 && wide >= 16 {
			t.Fatalf("the step with Wide %d has the length %d, behind one of %d", wide, h, last)
		}
		last = h
	}
}
