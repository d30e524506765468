package guard

import (
	"math/big"
	"math/rand"
	"slices"
	"testing"

	"armillary/api"
	"armillary/box"
	"armillary/interval"
	"armillary/ode"
	"armillary/step"
	"armillary/tape"
)

// P15.2: if the result is 0, no solution crosses the guard; if it is 2, every one does.

// crosses reports whether values cross 0 in a direction, as time goes on.
func crosses(dir int, l ...int64) bool {
	for i, before := range l {
		for _, after := range l[i+1:] {
			if dir >= 0 && before < 0 && after >= 0 || dir <= 0 && before > 0 && after <= 0 {
				return true
			}
		}
	}
	return false
}

// courses returns how many courses of values lie in the intervals of a segment, and how
// many of them cross 0. There are two values between the first one and the last one.
func courses(dir int, s api.Segment) (int, int) {
	all, crossing := 0, 0
	w, a, b := s.Tube[0], s.From[0], s.To[0]
	for first := a.Lo; first <= a.Hi; first++ {
		for last := b.Lo; last <= b.Hi; last++ {
			for x := w.Lo; x <= w.Hi; x++ {
				for y := w.Lo; y <= w.Hi; y++ {
					all++
					if crosses(dir, first, x, y, last) {
						crossing++
					}
				}
			}
		}
	}
	return all, crossing
}

// TestCourses has all segments with small values, for which Crossing knows all that the
// intervals tell.
func TestCourses(t *testing.T) {
	for _, s := range smallSegments(2) {
		for dir := -1; dir <= 1; dir++ {
			total, crossing := courses(dir, s)
			want := 1
			if crossing == 0 {
				want = 0
			}
			if crossing == total {
				want = 2
			}
			if got := Crossing(values(dir), s); got != want {
				t.Errorf("Crossing(%v, %v) = %d, but %d of %d courses cross", values(dir), s, got, crossing, total)
			}
		}
	}
}

func integer(n int64) *big.Rat { return big.NewRat(n, 1) }

// inUnits returns the number that x units are.
func inUnits(x int64) *big.Rat { return big.NewRat(x, one) }

func plus(x, y *big.Rat) *big.Rat { return new(big.Rat).Add(x, y) }

func minus(x, y *big.Rat) *big.Rat { return new(big.Rat).Sub(x, y) }

func times(x, y *big.Rat) *big.Rat { return new(big.Rat).Mul(x, y) }

// Square roots have many bits behind the point: signs of values that have some are known
// if they are not too close to 0.
const precision = 300

var tolerance = new(big.Rat).SetFrac(big.NewInt(1), new(big.Int).Lsh(big.NewInt(1), 100))

// rootOf returns the square root of a number that is not negative, rounded down.
func rootOf(x *big.Rat) *big.Rat {
	shifted := new(big.Int).Lsh(x.Num(), 2*precision)
	digits := new(big.Int).Sqrt(shifted.Quo(shifted, x.Denom()))
	return new(big.Rat).SetFrac(digits, new(big.Int).Lsh(big.NewInt(1), precision))
}

// exact returns the value of an expression, and false if it has none. In place of its
// intervals stand the given numbers, one for each node.
func exact(e []api.Node, numbers, x []*big.Rat, t *big.Rat) (*big.Rat, bool) {
	var stack []*big.Rat
	pop := func() *big.Rat {
		a := stack[len(stack)-1]
		stack = stack[:len(stack)-1]
		return a
	}
	push := func(a *big.Rat) { stack = append(stack, a) }
	for i, node := range slices.Backward(e) {
		switch node.Op {
		case api.Num:
			push(numbers[i])
		case api.Var:
			push(x[node.N])
		case api.Time:
			push(t)
		case api.Neg:
			push(new(big.Rat).Neg(pop()))
		case api.Sqr:
			a := pop()
			push(times(a, a))
		case api.Sqrt:
			a := pop()
			if a.Sign() < 0 {
				return nil, false
			}
			push(rootOf(a))
		case api.Add:
			push(plus(pop(), pop()))
		case api.Sub:
			push(minus(pop(), pop()))
		case api.Mul:
			push(times(pop(), pop()))
		case api.Div:
			a, b := pop(), pop()
			if b.Sign() == 0 {
				return nil, false
			}
			push(new(big.Rat).Quo(a, b))
		}
	}
	return pop(), true
}

// chain is a system in which each state variable but the last one is the integral of the
// next one, and the derivative of the last one is a constant.
type chain struct {
	n    int
	rate int64
}

// tape returns the tape of the system.
func (c chain) tape() api.Tape {
	s := api.System{Names: names[:c.n]}
	for i := range c.n - 1 {
		s.F = append(s.F, variable(i+1))
	}
	s.F = append(s.F, constant(c.rate))
	return tape.Compile(s)
}

// at returns the state after a duration.
func (c chain) at(x []*big.Rat, h *big.Rat) []*big.Rat {
	derivatives := append(slices.Clone(x), inUnits(c.rate))
	l := make([]*big.Rat, c.n)
	for i := range l {
		l[i] = new(big.Rat)
		factor := integer(1)
		for k, d := range derivatives[i:] {
			l[i] = plus(l[i], times(d, factor))
			factor = times(factor, times(h, big.NewRat(1, int64(k)+1)))
		}
	}
	return l
}

// element returns an element of an interval, often one of its ends.
func element(source *rand.Rand, a api.Interval) *big.Rat {
	if a == entire {
		return big.NewRat(source.Int63n(1<<40)-1<<39, one)
	}
	part := big.NewRat([]int64{0, 1000, source.Int63n(1001)}[source.Intn(3)], 1000)
	return plus(inUnits(a.Lo), times(part, inUnits(a.Hi-a.Lo)))
}

// elements returns elements of intervals.
func elements(source *rand.Rand, l []api.Interval) []*big.Rat {
	var x []*big.Rat
	for _, a := range l {
		x = append(x, element(source, a))
	}
	return x
}

// constants returns the intervals of the nodes of an expression.
func constants(e []api.Node) []api.Interval {
	var l []api.Interval
	for _, node := range e {
		l = append(l, node.C)
	}
	return l
}

// course returns the signs of a guard along a solution that starts in a box, from the
// start to the end of a step, and false if one of them is not known.
func course(source *rand.Rand, g api.Guard, c chain, s api.Segment) ([]int64, bool) {
	x, numbers := elements(source, s.From), elements(source, constants(g.F))
	after := []*big.Rat{integer(0), inUnits(1), inUnits(s.H - 1), inUnits(s.H)}
	for range 6 {
		after = append(after, times(inUnits(s.H), big.NewRat(source.Int63n(1001), 1000)))
	}
	slices.SortFunc(after, func(a, b *big.Rat) int { return a.Cmp(b) })
	rooted := slices.ContainsFunc(g.F, func(node api.Node) bool { return node.Op == api.Sqrt })
	var signs []int64
	for _, h := range after {
		value, ok := exact(g.F, numbers, c.at(x, h), plus(inUnits(s.T), h))
		if !ok || rooted && new(big.Rat).Abs(value).Cmp(tolerance) < 0 {
			return nil, false
		}
		signs = append(signs, int64(value.Sign()))
	}
	return signs, true
}

// randomStep returns a step of a system with known solutions.
func randomStep(source *rand.Rand) (chain, api.Segment) {
	for {
		c := chain{1 + source.Intn(4), source.Int63n(8*one) - 4*one}
		var x []api.Interval
		for range c.n {
			start := source.Int63n(8*one) - 4*one
			x = append(x, between(start, start+source.Int63n(1<<source.Intn(15))))
		}
		g := api.TimeStep{T: source.Int63n(8*one) - 4*one, H: 1 + source.Int63n(one)}
		if s, ok := step.IntervalStep(c.tape(), x, g, 1+source.Intn(7)); ok {
			return c, s
		}
	}
}

// randomLevel returns a guard that is 0 at a time of a step, for one of its solutions, or
// close to it.
func randomLevel(source *rand.Rand, c chain, s api.Segment) api.Guard {
	e := randomExpr(source, 1+source.Intn(7), c.n)
	x, h := elements(source, s.From), element(source, between(0, s.H))
	g := api.Guard{F: e, Dir: source.Intn(3) - 1}
	level, ok := exact(e, elements(source, constants(e)), c.at(x, h), plus(inUnits(s.T), h))
	if !ok || level.Cmp(integer(32000)) > 0 || level.Cmp(integer(-32000)) < 0 {
		return g
	}
	units := times(level, integer(one))
	g.F = join(api.Sub, e, constant(new(big.Int).Quo(units.Num(), units.Denom()).Int64()))
	return g
}

func TestSolutions(t *testing.T) {
	source, count := rand.New(rand.NewSource(11)), census{}
	for range 1200 {
		c, s := randomStep(source)
		for range 4 {
			g := randomLevel(source, c, s)
			k := Crossing(g, s)
			for range 6 {
				signs, ok := course(source, g, c, s)
				if !ok {
					continue
				}
				is := crosses(g.Dir, signs...)
				if k == 0 && is || k == 2 && !is {
					t.Fatalf("Crossing(%v, %v) = %d, but the signs of a solution are %v", g, s, k, signs)
				}
				rooted := slices.ContainsFunc(g.F, func(node api.Node) bool { return node.Op == api.Sqrt })
				count.add(map[string]bool{"none": k == 0, "all": k == 2, "unknown, crosses": k == 1 && is, "unknown, does not cross": k == 1 && !is, "none with a root": k == 0 && rooted, "all with a root": k == 2 && rooted})
			}
		}
	}
	count.check(t, 100, "none", "all", "unknown, crosses", "unknown, does not cross", "none with a root", "all with a root")
}

// P15.3: for subsets of the boxes, a result of 0 or 2 does not change.

func TestSmallRefinements(t *testing.T) {
	l := smallSegments(2)
	for _, s := range l {
		for _, r := range l {
			if !box.Subset(r.Tube, s.Tube) || !box.Subset(r.From, s.From) || !box.Subset(r.To, s.To) {
				continue
			}
			for dir := -1; dir <= 1; dir++ {
				if k, after := Crossing(values(dir), s), Crossing(values(dir), r); k != 1 && after != k {
					t.Errorf("Crossing(%v, %v) = %d, but %d for %v", values(dir), s, k, after, r)
				}
			}
		}
	}
}

// refined returns a segment whose boxes are subsets of others.
func refined(source *rand.Rand, s api.Segment) api.Segment {
	if source.Intn(2) == 0 {
		s.From = parts(source, s.From)
	}
	if source.Intn(2) == 0 {
		s.To = parts(source, s.To)
	}
	if source.Intn(2) == 0 {
		inner := parts(source, s.Tube)
		// They still have to contain the other boxes.
		s.Tube = box.Hull(box.Hull(inner, s.From), s.To)
	}
	return s
}

func TestRefinement(t *testing.T) {
	source, count := rand.New(rand.NewSource(12)), census{}
	for range 60000 {
		n := 1 + source.Intn(6)
		g, s := randomGuard(source, n), randomSegment(source, n)
		r := refined(source, s)
		k, after := Crossing(g, s), Crossing(g, r)
		if k != 1 && after != k {
			t.Fatalf("Crossing(%v, %v) = %d, but %d for %v", g, s, k, after, r)
		}
		differ := !slices.Equal(s.From, r.From) && !slices.Equal(s.To, r.To) && !slices.Equal(s.Tube, r.Tube)
		count.add(map[string]bool{"none": k == 0 && differ, "unknown": k == 1 && after == 1 && differ, "all": k == 2 && differ, "none now": k == 1 && after == 0, "all now": k == 1 && after == 2})
	}
	count.check(t, 50, "none", "unknown", "all", "none now", "all now")
}

// P15.4: Reverse changes the signs of values and sides, but not the result of Crossing;
// what is reversed again is as before, unless it begins with two Neg nodes.

func TestReversal(t *testing.T) {
	source, count := rand.New(rand.NewSource(13)), census{}
	for range 40000 {
		n := 1 + source.Intn(6)
		g, x, at, s := randomGuard(source, n), randomBox(source, n), randomInterval(source), randomSegment(source, n)
		r := Reverse(g)
		if Eval(r, x, at) != interval.Neg(Eval(g, x, at)) || Side(r, x, at) != -Side(g, x, at) {
			t.Fatalf("for %v, %v, the values of %v are %v, and those of %v are %v", x, at, g, Eval(g, x, at), r, Eval(r, x, at))
		}
		k := Crossing(g, s)
		if after := Crossing(r, s); after != k {
			t.Fatalf("Crossing(%v, %v) = %d, but %d for %v", g, s, k, after, r)
		}
		first := 0
		for first < len(g.F) && g.F[first].Op == api.Neg {
			first++
		}
		again := Reverse(r)
		if same := equalGuards(again, g); same != (first < 2) || first >= 2 && (again.Dir != g.Dir || !slices.Equal(again.F, g.F[2:])) {
			t.Fatalf("%v is reversed to %v and %v", g, r, again)
		}
		if valid := len(g.F) < api.MaxNodes || first > 0; valid && !Valid(r, n) {
			t.Fatalf("%v is reversed to %v", g, r)
		}
		count.add(map[string]bool{"no Neg": first == 0, "one Neg": first == 1, "two Negs": first == 2, "three Negs": first == 3, "on one side": Side(g, x, at) != 0, "none": k == 0, "unknown": k == 1, "all": k == 2, "up": g.Dir == 1, "down": g.Dir == -1, "both": g.Dir == 0})
	}
	count.check(t, 500, "no Neg", "one Neg", "two Negs", "three Negs", "on one side", "none", "unknown", "all", "up", "down", "both")
}

// P15.5: the result for the direction 0 comes from those for 1 and -1.

// inDirection returns the result for another direction.
func inDirection(dir int, g api.Guard, s api.Segment) int {
	return Crossing(api.Guard{F: g.F, Dir: dir}, s)
}

// TestPairs has segments with each pair of results that there may be: not all solutions
// can cross a guard upward if all can cross it downward.
func TestPairs(t *testing.T) {
	for _, y := range []struct {
		s              api.Segment
		up, down, both int
	}{
		{line(between(1, 3), point(2), point(2)), 0, 0, 0}, {line(point(0), point(0), point(0)), 0, 0, 0},
		{line(between(0, 3), point(2), point(2)), 0, 1, 1}, {line(between(-3, 0), point(-2), point(-2)), 1, 0, 1}, {line(between(-3, 3), point(2), point(2)), 1, 1, 1},
		{line(between(-3, 0), point(-2), point(0)), 2, 0, 2}, {line(between(-3, 3), point(-2), point(0)), 2, 1, 2}, {line(between(0, 3), point(2), point(0)), 0, 2, 2}, {line(between(-3, 3), point(2), point(0)), 1, 2, 2},
	} {
		checkCrossing(t, variable(0), y.s, crossings{y.up, y.down, y.both})
		checkCrossing(t, negated(1, variable(0)), y.s, crossings{y.down, y.up, y.both})
	}
}

// TestDirections compares the results for random arguments, and for ones with small
// values.
func TestDirections(t *testing.T) {
	source, count := rand.New(rand.NewSource(14)), map[[2]int]int{}
	check := func(g api.Guard, s api.Segment) {
		pair := [2]int{inDirection(1, g, s), inDirection(-1, g, s)}
		want := 1
		if pair[0] == 0 && pair[1] == 0 {
			want = 0
		}
		if pair[0] == 2 || pair[1] == 2 {
			want = 2
		}
		if got := inDirection(0, g, s); got != want {
			t.Fatalf("Crossing(%v, %v) is %v for the directions, but %d for both", g, s, pair, got)
		}
		count[pair]++
	}
	for range 40000 {
		n := 1 + source.Intn(6)
		check(randomGuard(source, n), randomSegment(source, n))
	}
	for _, s := range smallSegments(3) {
		check(values(0), s)
	}
	for up := range 3 {
		for down := range 3 {
			possible := up != 2 || down != 2
			if n := count[[2]int{up, down}]; possible != (n > 0) || possible && n < 10 {
				t.Errorf("%d times %d and %d: these tests miss something", n, up, down)
			}
		}
	}
}

// TestRealSegments combines the results for segments that steps have, too.
func TestRealSegments(t *testing.T) {
	for text, want := range map[string]crossings{"x-1": {2, 1, 2}, "x-3": {0, 0, 0}, "1-x": {1, 2, 2}, "x-2": {2, 0, 2}, "x": {0, 1, 1}, "t-1": {2, 0, 2}, "x-2*t": {1, 1, 1}, "x-2*t-3": {0, 0, 0}} {
		s, offset, err := ode.Parse("x' = 2")
		if err != api.OK {
			t.Fatal(offset, err)
		}
		y, ok := step.IntervalStep(tape.Compile(s), of(point(0)), api.TimeStep{T: 0, H: one}, 2)
		if !ok {
			t.Fatal("no step")
		}
		checkCrossing(t, parse(t, text), y, want)
	}
}
