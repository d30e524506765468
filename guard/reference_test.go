package guard

import (
	"math/rand"
	"slices"
	"testing"

	"armillary/api"
	"armillary/interval"
	"armillary/ode"
)

// References for P15.1, word by word, and random arguments to compare them with.

// census counts what occurs in random arguments.
type census map[string]int

// add counts the kinds that are true.
func (c census) add(kinds map[string]bool) {
	for kind, ok := range kinds {
		if ok {
			c[kind]++
		}
	}
}

// check checks that all kinds occur as often as needed.
func (c census) check(t *testing.T, needed int, kinds ...string) {
	t.Helper()
	for _, kind := range kinds {
		if c[kind] < needed {
			t.Errorf("%d times %s, %v: these tests miss something", c[kind], kind, c)
		}
	}
}

// wantEval returns the value of a valid expression. From the right to the left, all
// operands are known before their node is read.
func wantEval(e []api.Node, x []api.Interval, t api.Interval) api.Interval {
	var stack []api.Interval
	pop := func() api.Interval {
		a := stack[len(stack)-1]
		stack = stack[:len(stack)-1]
		return a
	}
	push := func(a api.Interval) { stack = append(stack, a) }
	for _, node := range slices.Backward(e) {
		switch node.Op {
		case api.Num:
			push(node.C)
		case api.Var:
			push(x[node.N])
		case api.Time:
			push(t)
		case api.Neg:
			a := pop()
			push(between(-a.Hi, -a.Lo))
		case api.Sqr:
			push(interval.Square(pop()))
		case api.Sqrt:
			a := pop()
			root, _ := interval.Sqrt(a)
			if a.Lo < 0 {
				root = entire
			}
			push(root)
		default:
			a := pop()
			f := map[int]func(a, b api.Interval) api.Interval{api.Add: interval.Add, api.Sub: interval.Sub, api.Mul: interval.Mul, api.Div: interval.Div}[node.Op]
			push(f(a, pop()))
		}
	}
	return pop()
}

// wantCrossing is the text of O4, for the values w, a and b.
func wantCrossing(dir int, w, a, b api.Interval) int {
	up, down := 1, 1
	if a.Hi < 0 && b.Lo >= 0 {
		up = 2
	} else if w.Hi < 0 || w.Lo >= 0 {
		up = 0
	}
	if a.Lo > 0 && b.Hi <= 0 {
		down = 2
	} else if w.Lo > 0 || w.Hi <= 0 {
		down = 0
	}
	switch {
	case dir == 1:
		return up
	case dir == -1:
		return down
	case up == 2 || down == 2:
		return 2
	case up == 0 && down == 0:
		return 0
	}
	return 1
}

// wantReverse is the text of O3.
func wantReverse(g api.Guard) api.Guard {
	r := api.Guard{Dir: -g.Dir}
	if g.F[0].Op != api.Neg {
		r.F = append(r.F, api.Node{Op: api.Neg})
	}
	for i, node := range g.F {
		if i > 0 || node.Op != api.Neg {
			r.F = append(r.F, node)
		}
	}
	return r
}

// wantValid reports whether a slice of nodes is a valid expression, from the right to the
// left, with a direction and a number of state variables that there may be.
func wantValid(g api.Guard, n int) bool {
	ok, operands := len(g.F) >= 1 && len(g.F) <= 200 && n >= 1 && n <= 6 && slices.Contains([]int{-1, 0, 1}, g.Dir), 0
	for _, node := range slices.Backward(g.F) {
		number, index := node.C, node.N
		switch node.Op {
		case api.Num:
			ok = ok && (number == entire || number.Lo > -1<<31 && number.Lo <= number.Hi && number.Hi < 1<<31)
			operands, number = operands+1, api.Interval{}
		case api.Var:
			ok = ok && index >= 0 && index < n
			operands, index = operands+1, 0
		case api.Time:
			operands++
		case api.Neg, api.Sqr, api.Sqrt:
			ok = ok && operands >= 1
		case api.Add, api.Sub, api.Mul, api.Div:
			ok = ok && operands >= 2
			operands--
		default:
			return false
		}
		ok = ok && number == api.Interval{} && index == 0
	}
	return ok && operands == 1
}

// randomInterval returns a valid interval: of small numbers mostly, or any.
func randomInterval(source *rand.Rand) api.Interval {
	bound := int64(4 * one)
	switch source.Intn(20) {
	case 0:
		return entire
	case 1:
		bound = largest
	case 2:
		bound = 3
	}
	x, y := source.Int63n(2*bound)-bound, source.Int63n(2*bound)-bound
	switch source.Intn(4) {
	case 0:
		y = x
	case 1:
		y = min(x+source.Int63n(one/8), largest)
	case 2:
		x, y = max(x, -x), max(y, -y)
	}
	return between(min(x, y), max(x, y))
}

// randomLeaf returns an expression of one node over n state variables.
func randomLeaf(source *rand.Rand, n int) []api.Node {
	switch source.Intn(8) {
	case 0:
		return constant([]int64{0, one, 2 * one, -one, one / 2, 3, -5 * one, 300 * one, largest}[source.Intn(9)])
	case 1:
		return num(randomInterval(source))
	case 2:
		return now()
	}
	return variable(source.Intn(n))
}

// randomExpr returns a valid expression of exactly the given number of nodes over n state
// variables.
func randomExpr(source *rand.Rand, nodes, n int) []api.Node {
	if nodes == 1 {
		return randomLeaf(source, n)
	}
	if nodes == 2 || source.Intn(5) == 0 {
		return join(api.Neg+source.Intn(3), randomExpr(source, nodes-1, n))
	}
	left := 1 + source.Intn(nodes-2)
	op := []int{api.Add, api.Add, api.Sub, api.Sub, api.Mul, api.Div}[source.Intn(6)]
	return join(op, randomExpr(source, left, n), randomExpr(source, nodes-1-left, n))
}

// randomGuard returns a valid guard for n state variables, often with Neg nodes in front.
func randomGuard(source *rand.Rand, n int) api.Guard {
	nodes := 1 + source.Intn([]int{2, 6, 12, 40}[source.Intn(4)])
	if source.Intn(100) == 0 {
		nodes = 197
	}
	return api.Guard{F: negated(source.Intn(4), randomExpr(source, nodes, n)), Dir: source.Intn(3) - 1}
}

func randomBox(source *rand.Rand, n int) []api.Interval {
	var x []api.Interval
	for range n {
		x = append(x, randomInterval(source))
	}
	return x
}

// randomBounded returns a bounded box of n intervals.
func randomBounded(source *rand.Rand, n int) []api.Interval {
	x := randomBox(source, n)
	for i := range x {
		for x[i] == entire {
			x[i] = randomInterval(source)
		}
	}
	return x
}

// part returns an interval in a bounded one, which often has one of its ends.
func part(source *rand.Rand, a api.Interval) api.Interval {
	x, y := a.Lo+source.Int63n(a.Hi-a.Lo+1), a.Lo+source.Int63n(a.Hi-a.Lo+1)
	switch source.Intn(5) {
	case 0:
		return a
	case 1:
		return between(a.Lo, x)
	case 2:
		return between(x, a.Hi)
	case 3:
		return point([]int64{a.Lo, a.Hi, x}[source.Intn(3)])
	}
	return between(min(x, y), max(x, y))
}

// parts returns a box in a bounded one.
func parts(source *rand.Rand, x []api.Interval) []api.Interval {
	var l []api.Interval
	for _, a := range x {
		l = append(l, part(source, a))
	}
	return l
}

// randomSegment returns a segment of n state variables, often one in which they go from
// one side to the other.
func randomSegment(source *rand.Rand, n int) api.Segment {
	s := api.Segment{T: source.Int63n(8*one) - 4*one, H: 1 + source.Int63n(4*one), Tube: randomBounded(source, n)}
	switch source.Intn(10) {
	case 0:
		s.T = -largest
	case 1:
		s.T = largest - s.H
	case 2:
		s.H = 1
	}
	s.From, s.To, s.Pre = parts(source, s.Tube), parts(source, s.Tube), s.Tube
	if source.Intn(2) == 0 {
		for i, a := range s.Tube {
			s.From[i], s.To[i] = between(a.Lo, interval.Mid(a)), between(max(a.Hi-10, a.Lo), a.Hi)
			if source.Intn(2) == 0 {
				s.From[i], s.To[i] = s.To[i], s.From[i]
			}
		}
	}
	return s
}

// spoil changes something in a guard, which is valid in most cases no longer.
func spoil(source *rand.Rand, g api.Guard) api.Guard {
	g.F = slices.Clone(g.F)
	node, odd := &g.F[source.Intn(len(g.F))], oddNumbers()[source.Intn(12)]
	switch source.Intn(8) {
	case 0:
		g.Dir = source.Intn(7) - 3
	case 1:
		g.F = g.F[:source.Intn(len(g.F))]
	case 2:
		g.F = append(g.F, randomExpr(source, 1+source.Intn(3), 1)...)
	case 3:
		node.Op = source.Intn(13) - 1
	case 4:
		node.N = []int{source.Intn(9) - 1, int(odd)}[source.Intn(2)]
	case 5:
		node.C.Lo = odd
	case 6:
		node.C.Hi = odd
	case 7:
		g.F = negated(190+source.Intn(12), randomLeaf(source, 6))
	}
	return g
}

func TestRandomValidity(t *testing.T) {
	source, count := rand.New(rand.NewSource(1)), census{}
	for range 40000 {
		n := 1 + source.Intn(6)
		g := randomGuard(source, n)
		if !Valid(g, n) || !wantValid(g, n) {
			t.Fatalf("%v is not valid for %d state variables", g, n)
		}
		if source.Intn(4) > 0 {
			g = spoil(source, g)
		}
		if source.Intn(2) == 0 {
			n = source.Intn(10) - 1
		}
		want := wantValid(g, n)
		if got := Valid(g, n); got != want {
			t.Fatalf("Valid(%v, %d) = %v", g, n, got)
		}
		right := ode.ValidExpr(g.F, n)
		count.add(map[string]bool{"valid": want, "not valid": !want, "only the direction is wrong": !want && right && n >= 1 && n <= 6, "only the dimension is wrong": right && (n < 1 || n > 6), "only the expression is wrong": !right && n >= 1 && n <= 6 && g.Dir >= -1 && g.Dir <= 1, "200 nodes": want && len(g.F) == 200, "201 nodes": len(g.F) == 201})
	}
	count.check(t, 150, "valid", "not valid", "only the direction is wrong", "only the dimension is wrong", "only the expression is wrong", "200 nodes", "201 nodes")
}

func TestRandomValues(t *testing.T) {
	source, count := rand.New(rand.NewSource(2)), census{}
	for range 40000 {
		n := 1 + source.Intn(6)
		g, x, at := randomGuard(source, n), randomBox(source, n), randomInterval(source)
		want, side := wantEval(g.F, x, at), 0
		if want.Lo > 0 {
			side = 1
		}
		if want.Hi < 0 {
			side = -1
		}
		if got := Eval(g, x, at); got != want || got != ode.Eval(g.F, x, at) {
			t.Fatalf("Eval(%v, %v, %v) = %v, want %v", g, x, at, got, want)
		}
		if got := Side(g, x, at); got != side {
			t.Fatalf("Side(%v, %v, %v) = %d, want %d", g, x, at, got, side)
		}
		if got, want := Reverse(g), wantReverse(g); !equalGuards(got, want) {
			t.Fatalf("Reverse(%v) = %v, want %v", g, got, want)
		}
		count.add(map[string]bool{"positive": side == 1, "negative": side == -1, "neither": side == 0 && want != entire, "entire": want == entire})
	}
	count.check(t, 2000, "positive", "negative", "neither", "entire")
}

func TestRandomCrossings(t *testing.T) {
	source, count := rand.New(rand.NewSource(3)), census{}
	for range 100000 {
		n := 1 + source.Intn(6)
		g, s := randomGuard(source, n), randomSegment(source, n)
		w, a, b := wantEval(g.F, s.Tube, between(s.T, s.T+s.H)), wantEval(g.F, s.From, point(s.T)), wantEval(g.F, s.To, point(s.T+s.H))
		want := wantCrossing(g.Dir, w, a, b)
		if got := Crossing(g, s); got != want {
			t.Fatalf("Crossing(%v, %v) = %d, want %d", g, s, got, want)
		}
		count[[]string{"down", "both", "up"}[g.Dir+1]+[]string{" none", " unknown", " all"}[want]]++
	}
	count.check(t, 400, "down none", "down unknown", "down all", "both none", "both unknown", "both all", "up none", "up unknown", "up all")
}

// small returns all intervals between two numbers.
func small(lo, hi int64) []api.Interval {
	var l []api.Interval
	for x := lo; x <= hi; x++ {
		for y := x; y <= hi; y++ {
			l = append(l, between(x, y))
		}
	}
	return l
}

// smallSegments returns all segments of one state variable with small intervals.
func smallSegments(most int64) []api.Segment {
	var l []api.Segment
	for _, w := range small(-most, most) {
		for _, a := range small(w.Lo, w.Hi) {
			for _, b := range small(w.Lo, w.Hi) {
				l = append(l, line(w, a, b))
			}
		}
	}
	return l
}

// TestSmallSegments has all segments with small values.
func TestSmallSegments(t *testing.T) {
	for _, s := range smallSegments(3) {
		for dir := -1; dir <= 1; dir++ {
			want := wantCrossing(dir, s.Tube[0], s.From[0], s.To[0])
			if got := Crossing(values(dir), s); got != want {
				t.Errorf("Crossing(%v, %v) = %d, want %d", values(dir), s, got, want)
			}
		}
	}
}

// TestAnyBoxes has boxes that need not be subsets of the tube, as for O4 only their
// values count.
func TestAnyBoxes(t *testing.T) {
	l := append(small(-2, 2), between(-largest, largest), point(largest), point(-largest))
	for _, w := range l {
		for _, a := range l {
			for _, b := range l {
				for dir := -1; dir <= 1; dir++ {
					want := wantCrossing(dir, w, a, b)
					if got := Crossing(values(dir), line(w, a, b)); got != want {
						t.Errorf("Crossing(%v) with %v, %v, %v = %d, want %d", values(dir), w, a, b, got, want)
					}
				}
			}
		}
	}
}
