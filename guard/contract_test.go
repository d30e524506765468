package guard

import (
	"go/parser"
	"go/token"
	"math"
	"path/filepath"
	"slices"
	"strings"
	"testing"

	"armillary/api"
	"armillary/ode"
)

// Tests of P15.1: the functions return what O1 to O4 say.

const (
	one     = api.One
	largest = api.Max - 1
)

var entire = api.Interval{Lo: -api.Max, Hi: api.Max}

func between(lo, hi int64) api.Interval { return api.Interval{Lo: lo, Hi: hi} }

func point(x int64) api.Interval { return between(x, x) }

// whole returns the interval between two whole numbers.
func whole(lo, hi int64) api.Interval { return between(lo*one, hi*one) }

// of returns a box.
func of(l ...api.Interval) []api.Interval { return l }

// num, constant, variable, now, join and negated return expressions.
func num(a api.Interval) []api.Node { return []api.Node{{Op: api.Num, C: a}} }

func constant(x int64) []api.Node { return num(point(x)) }

func variable(i int) []api.Node { return []api.Node{{Op: api.Var, N: i}} }

func now() []api.Node { return []api.Node{{Op: api.Time}} }

func join(op int, operands ...[]api.Node) []api.Node {
	return append([]api.Node{{Op: op}}, slices.Concat(operands...)...)
}

// negated returns an expression behind the given number of Neg nodes.
func negated(times int, e []api.Node) []api.Node {
	return slices.Concat(slices.Repeat([]api.Node{{Op: api.Neg}}, times), e)
}

// long returns an expression of the given odd number of nodes.
func long(nodes int) []api.Node {
	return slices.Concat(slices.Repeat([]api.Node{{Op: api.Add}}, nodes/2), slices.Repeat(variable(0), nodes/2+1))
}

var names = []string{"x", "v", "w", "a", "b", "c"}

// parse returns the expression with the given text.
func parse(t *testing.T, text string) []api.Node {
	t.Helper()
	e, offset, err := ode.ParseExpr(text, names)
	if err != api.OK {
		t.Fatalf("%q is no expression: error %v at %d", text, err, offset)
	}
	return e
}

// guardOf returns the guard with the given text and direction.
func guardOf(t *testing.T, text string, dir int) api.Guard {
	t.Helper()
	return api.Guard{F: parse(t, text), Dir: dir}
}

func equalGuards(a, b api.Guard) bool { return a.Dir == b.Dir && slices.Equal(a.F, b.F) }

// segment returns a segment during one unit of time from 1 on.
func segment(tube, from, to []api.Interval) api.Segment {
	return api.Segment{T: one, H: 1, From: from, Pre: tube, Tube: tube, To: to}
}

// line returns a segment of one state variable.
func line(tube, from, to api.Interval) api.Segment {
	return segment(of(tube), of(from), of(to))
}

// TestExamples has the calls of the section "Examples".
func TestExamples(t *testing.T) {
	s := line(whole(0, 2), whole(0, 0), whole(2, 2))
	for _, y := range []struct {
		g    api.Guard
		want int
	}{{guardOf(t, "x-1", 1), 2}, {guardOf(t, "x-1", -1), 1}, {guardOf(t, "x-3", 0), 0}} {
		if got := Crossing(y.g, s); got != y.want {
			t.Errorf("Crossing(%v, %v) = %d, want %d", y.g, s, got, y.want)
		}
	}
}

func TestValidDirections(t *testing.T) {
	for dir, want := range map[int]bool{-2: false, -1: true, 0: true, 1: true, 2: false, 3: false, -3: false, 255: false, 256: false, 257: false, math.MaxInt: false, math.MinInt: false, 1 << 32: false, 1<<32 + 1: false} {
		for n := 1; n <= 6; n++ {
			for _, e := range [][]api.Node{now(), variable(0), variable(n - 1), long(199)} {
				if g := (api.Guard{F: e, Dir: dir}); Valid(g, n) != want {
					t.Errorf("Valid(%v, %d) = %v", g, n, !want)
				}
			}
			if g := (api.Guard{Dir: dir}); Valid(g, n) {
				t.Errorf("Valid(%v, %d) = true", g, n)
			}
		}
	}
}

// TestValidDimensions has expressions that would be right for any number of state
// variables, or for a greater one.
func TestValidDimensions(t *testing.T) {
	for _, n := range []int{math.MinInt, -1 << 32, -7, -6, -1, 0, 1, 2, 3, 4, 5, 6, 7, 8, 13, 1 << 32, 1<<32 + 1, math.MaxInt} {
		for dir := -1; dir <= 1; dir++ {
			for _, e := range [][]api.Node{now(), constant(5), num(entire), join(api.Sub, now(), constant(one))} {
				want := n == 1 || n == 2 || n == 3 || n == 4 || n == 5 || n == 6
				if g := (api.Guard{F: e, Dir: dir}); Valid(g, n) != want {
					t.Errorf("Valid(%v, %d) = %v", g, n, !want)
				}
			}
			for i := -1; i < 8; i++ {
				want := i >= 0 && i < n && n <= 6
				for _, e := range [][]api.Node{variable(i), join(api.Mul, now(), variable(i)), join(api.Add, variable(i), now())} {
					if g := (api.Guard{F: e, Dir: dir}); Valid(g, n) != want {
						t.Errorf("Valid(%v, %d) = %v", g, n, !want)
					}
				}
			}
		}
	}
}

// TestValidExpressions has expressions of all lengths.
func TestValidExpressions(t *testing.T) {
	for _, y := range []struct {
		e    []api.Node
		want bool
	}{
		{nil, false}, {[]api.Node{}, false},
		// One node.
		{now(), true}, {variable(0), true}, {constant(0), true}, {constant(-largest), true}, {num(entire), true}, {num(between(-largest, largest)), true},
		{variable(1), false}, {variable(-1), false}, {num(between(1, 0)), false}, {constant(api.Max), false}, {num(between(-api.Max, 0)), false}, {num(between(0, api.Max)), false}, {[]api.Node{{}}, false}, {[]api.Node{{Op: 11}}, false}, {[]api.Node{{Op: -1}}, false}, {[]api.Node{{Op: api.Neg}}, false}, {[]api.Node{{Op: api.Add}}, false},
		// Fields that are not zero.
		{[]api.Node{{Op: api.Time, N: 1}}, false}, {[]api.Node{{Op: api.Time, C: point(1)}}, false}, {[]api.Node{{Op: api.Num, N: 1}}, false}, {[]api.Node{{Op: api.Var, C: point(1)}}, false},
		// Too few operands, and too many.
		{join(api.Neg, now()), true}, {join(api.Neg, now(), now()), false}, {join(api.Sub, now()), false}, {join(api.Sub, now(), variable(0)), true}, {join(api.Sub, now(), variable(0), now()), false}, {join(api.Sqr), false}, {join(api.Sqrt, join(api.Div, now(), variable(0))), true}, {slices.Concat(now(), now()), false}, {join(api.Sub, now(), variable(1)), false}, {join(api.Sub, variable(1), now()), false},
		// 200 nodes, and more.
		{long(199), true}, {negated(1, long(199)), true}, {negated(2, long(199)), false}, {long(201), false}, {negated(199, now()), true}, {negated(200, now()), false}, {negated(1, long(201)), false}, {join(api.Sqr, long(199)), true}, {join(api.Sqrt, join(api.Sqr, long(199))), false}, {negated(1, long(199))[1:], true}, {negated(1, long(199))[:199], false}, {append(long(199), variable(0)...), false}, {slices.Repeat(now(), 200), false}, {negated(999, now()), false},
	} {
		for n := 1; n <= 6; n++ {
			if n > 1 && slices.ContainsFunc(y.e, func(node api.Node) bool { return node.N == 1 && node.Op == api.Var }) {
				continue
			}
			for dir := -1; dir <= 1; dir++ {
				if g := (api.Guard{F: y.e, Dir: dir}); Valid(g, n) != y.want {
					t.Errorf("Valid(%v, %d) = %v", g, n, !y.want)
				}
			}
		}
	}
}

func TestEval(t *testing.T) {
	x, now := of(whole(0, 2), whole(-1, 3), point(one/2), whole(4, 9), whole(-2, -1), point(0)), whole(1, 4)
	for text, want := range map[string]api.Interval{
		// Each node.
		"[-1,5]": whole(-1, 5), "all": entire, "0": point(0), "x": whole(0, 2), "v": whole(-1, 3), "c": point(0), "t": whole(1, 4), "-v": whole(-3, 1), "sqr(v)": whole(0, 9), "sqrt(a)": whole(2, 3), "x+v": whole(-1, 5), "x-v": whole(-3, 3), "x*v": whole(-2, 6), "x/b": whole(-2, 0),
		// Several, and the time.
		"x-1": whole(-1, 1), "t-2": whole(-1, 2), "x-t": whole(-4, 1), "sqr(x)+sqr(v)-a": whole(-9, 9), "w*w": point(one / 4), "-(t*b)": whole(1, 8), "--x": whole(0, 2), "---x": whole(-2, 0),
		// Rounded outward.
		"1/[3,3]": between(21845, 21846), "sqrt(2)": between(92681, 92682), "0.1": between(6553, 6554),
		// Unbounded.
		"1/v": entire, "1/c": entire, "x/x": entire, "-all": entire, "sqrt(v)": entire, "sqrt(b)": entire, "sqr(100*a)": entire, "32767+x": entire, "-32767-x": entire, "all-all": entire, "0*all": entire,
	} {
		for dir := -1; dir <= 1; dir++ {
			if g := guardOf(t, text, dir); Eval(g, x, now) != want {
				t.Errorf("Eval(%q, %d) = %v, want %v", text, dir, Eval(g, x, now), want)
			}
		}
	}
	// The other times, and the greatest numbers.
	for _, a := range []api.Interval{point(0), entire, between(-largest, largest), point(largest), point(-largest), between(-1, 1)} {
		for _, y := range []struct {
			text string
			want api.Interval
		}{{"x", a}, {"t", a}, {"-x", between(-a.Hi, -a.Lo)}, {"-t", between(-a.Hi, -a.Lo)}} {
			if got := Eval(guardOf(t, y.text, 0), of(a), a); got != y.want {
				t.Errorf("Eval(%q) for %v = %v, want %v", y.text, a, got, y.want)
			}
		}
	}
	// Guards of the time alone need no box.
	if got := Eval(guardOf(t, "t-2", 1), nil, whole(1, 4)); got != whole(-1, 2) {
		t.Errorf("the value without a box is %v", got)
	}
	// The number of nodes does not matter.
	for _, e := range [][]api.Node{long(199), negated(198, variable(0)), join(api.Sqr, long(199))} {
		if g := (api.Guard{F: e, Dir: 1}); Eval(g, of(between(-1, 3)), point(7)) != ode.Eval(e, of(between(-1, 3)), point(7)) {
			t.Errorf("Eval(%v) = %v", g, Eval(g, of(between(-1, 3)), point(7)))
		}
	}
	if got := Eval(api.Guard{F: long(199)}, of(between(-1, 3)), point(7)); got != between(-100, 300) {
		t.Errorf("a hundred times [-1, 3] is %v", got)
	}
}

func TestSide(t *testing.T) {
	for a, want := range map[api.Interval]int{
		point(0): 0, point(1): 1, point(-1): -1, between(0, 1): 0, between(-1, 0): 0, between(-1, 1): 0, between(1, 2): 1, between(-2, -1): -1, between(-2, 0): 0, between(0, 2): 0, between(-2, 1): 0, between(-1, 2): 0,
		point(largest): 1, point(-largest): -1, between(1, largest): 1, between(0, largest): 0, between(-1, largest): 0, between(-largest, -1): -1, between(-largest, 0): 0, between(-largest, 1): 0, between(-largest, largest): 0, entire: 0, whole(1, 3): 1, whole(-3, -1): -1,
	} {
		for dir := -1; dir <= 1; dir++ {
			for text, sign := range map[string]int{"x": 1, "t": 1, "-x": -1, "--t": 1, "x+0": 1, "x/1": 1, "---x": -1} {
				if got := Side(guardOf(t, text, dir), of(a), a); got != sign*want {
					t.Errorf("Side(%q, %d) for %v = %d, want %d", text, dir, a, got, sign*want)
				}
			}
			if got := Side(api.Guard{F: num(a), Dir: dir}, of(point(-5)), point(5)); got != want {
				t.Errorf("Side of %v = %d, want %d", a, got, want)
			}
		}
	}
	for text, want := range map[string]int{"x-1": 0, "x+1": 1, "x-3": -1, "x-2": 0, "x": 0, "1/x": 0, "sqrt(x-1)": 0, "sqrt(x+1)": 1, "sqr(x-1)": 0, "-sqr(x)-0.1": -1, "all": 0, "x-t": -1, "t-x": 1} {
		if got := Side(guardOf(t, text, 0), of(whole(0, 2)), whole(3, 4)); got != want {
			t.Errorf("Side(%q) = %d, want %d", text, got, want)
		}
	}
}

// TestReverse has no, one, two and three Neg nodes in front, for all directions.
func TestReverse(t *testing.T) {
	for _, e := range [][]api.Node{variable(0), now(), constant(-5), num(entire), join(api.Sub, variable(0), constant(one)), join(api.Sub, negated(1, variable(0)), negated(2, now())), join(api.Sqr, negated(3, variable(5))), join(api.Sqrt, now()), long(197)} {
		for times, want := range map[int]int{0: 1, 1: 0, 2: 1, 3: 2} {
			for dir := -1; dir <= 1; dir++ {
				g, reversed := api.Guard{F: negated(times, e), Dir: dir}, api.Guard{F: negated(want, e), Dir: -dir}
				if got := Reverse(g); !equalGuards(got, reversed) {
					t.Errorf("Reverse(%v) = %v, want %v", g, got, reversed)
				}
			}
		}
	}
	// As many nodes as there may be.
	for _, e := range [][]api.Node{long(199), negated(198, now()), negated(1, long(197))} {
		for _, more := range []int{1, 0} {
			g := api.Guard{F: negated(more, e), Dir: 1}
			want := api.Guard{F: negated(1-more, e), Dir: -1}
			if more == 0 && e[0].Op == api.Neg {
				want.F = e[1:]
			}
			if got := Reverse(g); !equalGuards(got, want) || !Valid(got, 1) {
				t.Errorf("Reverse(%v) = %v, want %v", g, got, want)
			}
		}
	}
}

// values returns a guard whose values are the intervals that a segment of one state
// variable has.
func values(dir int) api.Guard { return api.Guard{F: variable(0), Dir: dir} }

// crossings is what Crossing returns for each direction.
type crossings struct{ up, down, both int }

// checkCrossing checks the results for all directions.
func checkCrossing(t *testing.T, e []api.Node, s api.Segment, want crossings) {
	t.Helper()
	for dir, k := range map[int]int{1: want.up, -1: want.down, 0: want.both} {
		g := api.Guard{F: e, Dir: dir}
		if got := Crossing(g, s); got != k {
			t.Errorf("Crossing(%v, %v) = %d, want %d", g, s, got, k)
		}
	}
}

// TestCrossingEnds moves one end of a value past 0.
func TestCrossingEnds(t *testing.T) {
	for _, y := range []struct {
		tube, from, to api.Interval
		want           crossings
	}{
		// The upper end at the start, of what rises.
		{between(-5, 5), between(-5, -1), between(0, 5), crossings{2, 1, 2}}, {between(-5, 5), between(-5, 0), between(0, 5), crossings{1, 1, 1}}, {between(-5, 5), between(-5, 1), between(0, 5), crossings{1, 1, 1}},
		// The lower end there does not matter.
		{between(-5, 5), point(-1), between(0, 5), crossings{2, 1, 2}}, {between(-5, 5), between(-1, 0), between(0, 5), crossings{1, 1, 1}}, {between(-5, 5), point(0), between(0, 5), crossings{1, 1, 1}}, {between(-5, 5), point(1), between(0, 5), crossings{1, 1, 1}},
		// The lower end at the end.
		{between(-5, 5), between(-5, -1), between(-1, 5), crossings{1, 1, 1}}, {between(-5, 5), between(-5, -1), between(1, 5), crossings{2, 1, 2}}, {between(-5, 5), between(-5, -1), point(-1), crossings{1, 1, 1}}, {between(-5, 5), between(-5, -1), point(0), crossings{2, 1, 2}}, {between(-5, 5), between(-5, -1), point(1), crossings{2, 1, 2}}, {between(-5, 5), between(-5, -1), between(-1, 0), crossings{1, 1, 1}}, {between(-5, 5), between(-5, -1), between(0, 1), crossings{2, 1, 2}},
		// What falls: the lower end at the start, and the upper end at the end.
		{between(-5, 5), between(1, 5), between(-5, 0), crossings{1, 2, 2}}, {between(-5, 5), between(0, 5), between(-5, 0), crossings{1, 1, 1}}, {between(-5, 5), between(-1, 5), between(-5, 0), crossings{1, 1, 1}}, {between(-5, 5), point(1), between(-5, 0), crossings{1, 2, 2}}, {between(-5, 5), point(0), between(-5, 0), crossings{1, 1, 1}}, {between(-5, 5), point(-1), between(-5, 0), crossings{1, 1, 1}},
		{between(-5, 5), between(1, 5), between(-5, 1), crossings{1, 1, 1}}, {between(-5, 5), between(1, 5), between(-5, -1), crossings{1, 2, 2}}, {between(-5, 5), between(1, 5), point(1), crossings{1, 1, 1}}, {between(-5, 5), between(1, 5), point(0), crossings{1, 2, 2}}, {between(-5, 5), between(1, 5), point(-1), crossings{1, 2, 2}}, {between(-5, 5), between(1, 5), between(0, 1), crossings{1, 1, 1}}, {between(-5, 5), between(1, 5), between(-1, 0), crossings{1, 2, 2}},
		// The ends in between.
		{between(-5, -1), point(-2), point(-2), crossings{0, 0, 0}}, {between(-5, 0), point(-2), point(-2), crossings{1, 0, 1}}, {between(-5, 1), point(-2), point(-2), crossings{1, 1, 1}}, {point(-1), point(-1), point(-1), crossings{0, 0, 0}},
		{between(1, 5), point(2), point(2), crossings{0, 0, 0}}, {between(0, 5), point(2), point(2), crossings{0, 1, 1}}, {between(-1, 5), point(2), point(2), crossings{1, 1, 1}}, {point(1), point(1), point(1), crossings{0, 0, 0}},
		{point(0), point(0), point(0), crossings{0, 0, 0}}, {between(-1, 0), point(0), point(0), crossings{1, 0, 1}}, {between(0, 1), point(0), point(0), crossings{0, 1, 1}}, {between(-1, 1), point(0), point(0), crossings{1, 1, 1}},
		// Both at once: the values never are positive, or never negative.
		{between(-5, 0), point(-2), point(0), crossings{2, 0, 2}}, {between(-1, 0), point(-1), point(0), crossings{2, 0, 2}}, {between(0, 5), point(2), point(0), crossings{0, 2, 2}}, {between(0, 1), point(1), point(0), crossings{0, 2, 2}},
		// The start or the end alone tells nothing.
		{between(-5, 5), between(-5, -1), between(-5, 5), crossings{1, 1, 1}}, {between(-5, 5), between(-5, -1), between(-5, -1), crossings{1, 1, 1}}, {between(-5, 5), between(-5, 5), between(0, 5), crossings{1, 1, 1}}, {between(-5, 5), between(1, 5), between(1, 5), crossings{1, 1, 1}}, {between(-5, 5), between(1, 5), between(-5, 5), crossings{1, 1, 1}}, {between(-5, 5), between(-5, 5), between(-5, 0), crossings{1, 1, 1}}, {between(-5, 5), between(-5, 5), between(-5, -1), crossings{1, 1, 1}}, {between(-5, 5), between(-5, 5), between(-5, 5), crossings{1, 1, 1}},
		// The greatest numbers.
		{between(-largest, largest), point(-largest), point(largest), crossings{2, 1, 2}}, {between(-largest, largest), point(largest), point(-largest), crossings{1, 2, 2}}, {point(largest), point(largest), point(largest), crossings{0, 0, 0}}, {point(-largest), point(-largest), point(-largest), crossings{0, 0, 0}}, {between(-largest, largest), between(-largest, largest), between(-largest, largest), crossings{1, 1, 1}}, {between(-largest, 0), between(-largest, -1), point(0), crossings{2, 0, 2}},
	} {
		checkCrossing(t, variable(0), line(y.tube, y.from, y.to), y.want)
		// The time does not matter, nor how long it is, nor the enclosure of the step.
		for _, s := range []api.Segment{{T: 0, H: one}, {T: -largest, H: 1}, {T: largest - 1, H: 1}, {T: -largest, H: 2 * largest}, {T: -1, H: 1}} {
			s.From, s.Tube, s.To = of(y.from), of(y.tube), of(y.to)
			s.Pre = of(between(-largest, largest))
			checkCrossing(t, variable(0), s, y.want)
		}
		// The other way round.
		checkCrossing(t, negated(1, variable(0)), line(y.tube, y.from, y.to), crossings{y.want.down, y.want.up, y.want.both})
		checkCrossing(t, negated(2, variable(0)), line(y.tube, y.from, y.to), y.want)
		// The last one of six variables.
		fill := func(a api.Interval) []api.Interval { return append(slices.Repeat(of(point(7)), 5), a) }
		checkCrossing(t, variable(5), segment(fill(y.tube), fill(y.from), fill(y.to)), y.want)
		checkCrossing(t, variable(4), segment(fill(y.tube), fill(y.from), fill(y.to)), crossings{0, 0, 0})
	}
}

// TestCrossingUnbounded has values that are entire on one or more of the three boxes.
func TestCrossingUnbounded(t *testing.T) {
	up := line(whole(-1, 1), whole(-1, -1), whole(1, 1))
	for _, y := range []struct {
		text string
		s    api.Segment
		want crossings
	}{
		{"all", up, crossings{1, 1, 1}}, {"-all", up, crossings{1, 1, 1}}, {"x+all", up, crossings{1, 1, 1}}, {"sqrt(-1-t)", up, crossings{1, 1, 1}},
		// Only on the tube.
		{"1/x", up, crossings{2, 1, 2}}, {"-1/x", up, crossings{1, 2, 2}}, {"1/sqr(x)", up, crossings{1, 1, 1}}, {"sqrt(sqr(x)-0.5)", up, crossings{1, 1, 1}},
		// On the tube, and at the start or the end.
		{"1/x", line(whole(-1, 1), whole(-1, -1), whole(0, 1)), crossings{1, 1, 1}}, {"1/x", line(whole(-1, 1), whole(-1, 0), whole(1, 1)), crossings{1, 1, 1}}, {"1/x", line(whole(-1, 1), whole(1, 1), whole(-1, 0)), crossings{1, 1, 1}}, {"1/x", line(whole(-1, 1), whole(0, 1), whole(-1, -1)), crossings{1, 1, 1}},
		{"1/(t-1)", up, crossings{1, 1, 1}}, {"sqrt(x)", up, crossings{1, 1, 1}}, {"sqrt(-x)", up, crossings{1, 1, 1}},
		// On all of them.
		{"1/x", line(whole(-1, 1), whole(-1, 1), whole(-1, 1)), crossings{1, 1, 1}}, {"32767*x", line(whole(-2, 2), whole(-2, -2), whole(2, 2)), crossings{1, 1, 1}}, {"32767*x", up, crossings{2, 1, 2}}, {"20000*x", line(whole(-2, 2), whole(-1, -1), whole(1, 1)), crossings{2, 1, 2}},
		// On none of them.
		{"1/(x+2)", up, crossings{0, 0, 0}}, {"sqrt(x+1)", up, crossings{0, 1, 1}},
	} {
		checkCrossing(t, parse(t, y.text), y.s, y.want)
	}
}

// TestCrossingTimes has guards of the time alone, and of a state and the time.
func TestCrossingTimes(t *testing.T) {
	at := func(start, h int64) api.Segment {
		b := of(point(0))
		return api.Segment{T: start, H: h, From: b, Pre: b, Tube: b, To: b}
	}
	for _, y := range []struct {
		text     string
		start, h int64
		want     crossings
	}{
		{"t-2", one, one, crossings{2, 0, 2}}, {"2-t", one, one, crossings{0, 2, 2}}, {"t-2", one, 2 * one, crossings{2, 1, 2}}, {"2-t", one, 2 * one, crossings{1, 2, 2}}, {"t-2", one, one - 1, crossings{0, 0, 0}}, {"t-2", one, one + 1, crossings{2, 1, 2}}, {"t-2", 2 * one, one, crossings{0, 1, 1}}, {"t-2", 2*one + 1, one, crossings{0, 0, 0}}, {"t-2", 2*one - 1, one, crossings{2, 1, 2}}, {"t-2", 2*one - 1, 1, crossings{2, 0, 2}}, {"2-t", 2 * one, one, crossings{1, 0, 1}}, {"2-t", 2*one - 1, 1, crossings{0, 2, 2}},
		{"t", -1, 1, crossings{2, 0, 2}}, {"t", -1, 2, crossings{2, 1, 2}}, {"t", -2, 1, crossings{0, 0, 0}}, {"t", 0, 1, crossings{0, 1, 1}}, {"t", 1, 1, crossings{0, 0, 0}}, {"-t", -1, 1, crossings{0, 2, 2}}, {"-t", 0, 1, crossings{1, 0, 1}}, {"sqr(t)", -one, 2 * one, crossings{0, 1, 1}}, {"sqr(t)-1", -2 * one, 2 * one, crossings{1, 2, 2}}, {"sqr(t)-1", -2 * one, 4 * one, crossings{1, 1, 1}},
		{"t", -largest, 2 * largest, crossings{2, 1, 2}}, {"t", -largest, largest, crossings{2, 0, 2}}, {"t", 0, largest, crossings{0, 1, 1}}, {"t", largest - 1, 1, crossings{0, 0, 0}}, {"t", -largest, 1, crossings{0, 0, 0}},
		{"x+t", -1, 1, crossings{2, 0, 2}}, {"t-x-1", one - 1, 1, crossings{2, 0, 2}}, {"x-t", -5, 9, crossings{1, 2, 2}}, {"5*x", -5, 9, crossings{0, 0, 0}},
	} {
		checkCrossing(t, parse(t, y.text), at(y.start, y.h), y.want)
	}
	// A state that goes ahead of the time.
	s := api.Segment{T: one, H: 2 * one, From: of(whole(0, 0)), Pre: of(whole(0, 9)), Tube: of(whole(0, 6)), To: of(whole(6, 6))}
	for text, want := range map[string]crossings{"x-t": {2, 1, 2}, "t-x": {1, 2, 2}, "x-t+2": {1, 1, 1}, "x-2*t": {2, 1, 2}, "x-2*t-1": {1, 1, 1}, "x-t-6": {0, 0, 0}, "x+t": {0, 0, 0}, "x+t-1": {0, 1, 1}, "x-t-5": {1, 0, 1}, "x*t-18": {2, 0, 2}} {
		checkCrossing(t, parse(t, text), s, want)
	}
}

// TestCrossingVariables has guards of several state variables.
func TestCrossingVariables(t *testing.T) {
	s := segment(of(whole(0, 4), whole(-2, 1)), of(whole(0, 1), whole(1, 1)), of(whole(3, 4), whole(-2, -1)))
	for text, want := range map[string]crossings{"x-2": {2, 1, 2}, "v": {1, 2, 2}, "x-v": {1, 1, 1}, "x-v-0.1": {2, 1, 2}, "x-v-4": {2, 1, 2}, "x-v-5": {1, 1, 1}, "x-v-6": {1, 0, 1}, "x-v-7": {0, 0, 0}, "x*v": {1, 1, 1}, "x*v+2": {1, 2, 2}, "sqr(v)-1": {1, 1, 1}, "sqr(v)": {0, 1, 1}, "x": {0, 1, 1}, "x+2": {0, 0, 0}, "v-x": {1, 1, 1}, "v-x+2": {1, 2, 2}, "v-x-1": {1, 0, 1}, "v-x-2": {0, 0, 0}, "x/(v-2)": {1, 0, 1}} {
		checkCrossing(t, parse(t, text), s, want)
	}
}

// TestCertainCountsFirst has boxes that no segment has: only with such boxes both tests
// of a direction succeed.
func TestCertainCountsFirst(t *testing.T) {
	for _, tube := range []api.Interval{point(-1), point(0), point(1), between(-2, -1), between(1, 2), between(0, 2), between(-2, 0)} {
		if got := Crossing(values(1), line(tube, point(-1), point(0))); got != 2 {
			t.Errorf("upward with the tube %v: %d", tube, got)
		}
		if got := Crossing(values(-1), line(tube, point(1), point(0))); got != 2 {
			t.Errorf("downward with the tube %v: %d", tube, got)
		}
		for _, from := range []int64{-1, 1} {
			if got := Crossing(values(0), line(tube, point(from), point(0))); got != 2 {
				t.Errorf("from %d with the tube %v: %d", from, tube, got)
			}
		}
	}
}

// oddNumbers returns numbers at the limits of what is specified, and beyond them.
func oddNumbers() []int64 {
	return []int64{0, 1, -1, one, largest, -largest, api.Max, -api.Max, math.MaxInt64, math.MinInt64, math.MaxInt64 / 2, math.MinInt64 / 2}
}

// oddBoxes returns boxes, and slices of intervals that are none.
func oddBoxes() [][]api.Interval {
	return [][]api.Interval{nil, {}, {point(0)}, {entire}, {between(1, 0)}, {point(1), point(2)}, {point(api.Max), between(5, 0)}, {between(math.MinInt64, math.MaxInt64), between(math.MaxInt64, math.MinInt64)}, make([]api.Interval, 7)}
}

// oddExpressions returns expressions, and slices of nodes that are none.
func oddExpressions(t *testing.T) [][]api.Node {
	l := [][]api.Node{nil, {}, {{}}, {{Op: api.Neg}}, {{Op: api.Neg}, {Op: api.Neg}}, {{Op: 11}}, {{Op: math.MinInt}}, {{Op: api.Div}, {Op: api.Time}}, {{Op: api.Neg, N: 5, C: entire}, {Op: api.Time}}, {{Op: api.Var, N: math.MaxInt}}, {{Op: api.Var, N: -1}}, {{Op: api.Num, C: between(1, 0)}}, {{Op: api.Num, C: between(math.MaxInt64, math.MinInt64)}}, long(201), negated(1, long(199)), negated(200, now()), join(api.Sqr, long(199)), slices.Repeat(now(), 200)}
	for _, text := range []string{"x", "v", "t", "-x", "x-1", "1/x", "x/t", "t/x", "x*t", "sqr(x-t)", "sqrt(x*t)", "sqr(t)*v", "v/sqr(x)"} {
		l = append(l, parse(t, text))
	}
	return l
}

// TestNothingPanics calls all functions with all kinds of arguments, those for which
// nothing else is specified among them.
func TestNothingPanics(t *testing.T) {
	for _, e := range oddExpressions(t) {
		for _, dir := range []int{-1, 0, 1, -2, 2, math.MinInt, math.MaxInt} {
			g := api.Guard{F: e, Dir: dir}
			for _, n := range []int{math.MinInt, -1, 0, 1, 6, 7, math.MaxInt} {
				Valid(g, n)
			}
			Reverse(g)
			for i, x := range oddBoxes() {
				for k, lo := range oddNumbers() {
					for _, hi := range oddNumbers() {
						Eval(g, x, between(lo, hi))
						s := api.Segment{T: lo, H: hi, From: x, Tube: oddBoxes()[(i+k)%9], To: oddBoxes()[(i+2*k)%9]}
						if side, k := Side(g, x, between(lo, hi)), Crossing(g, s); side < -1 || side > 1 || k < 0 || k > 2 {
							t.Fatalf("the results for %v, %v are %d and %d", g, s, side, k)
						}
					}
				}
			}
		}
	}
}

// TestImports checks that the package imports no other layers than interval and ode.
func TestImports(t *testing.T) {
	files, err := filepath.Glob("*.go")
	if err != nil || len(files) == 0 {
		t.Fatal("no files", err)
	}
	allowed := []string{`"armillary/api"`, `"armillary/interval"`, `"armillary/ode"`}
	for _, name := range files {
		if strings.HasSuffix(name, "_test.go") {
			continue
		}
		file, err := parser.ParseFile(token.NewFileSet(), name, nil, parser.ImportsOnly)
		if err != nil {
			t.Fatal(err)
		}
		for _, spec := range file.Imports {
			if path := spec.Path.Value; strings.HasPrefix(path, `"armillary`) && !slices.Contains(allowed, path) {
				t.Errorf("%s imports %s", name, path)
			}
		}
	}
}
