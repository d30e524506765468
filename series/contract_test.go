package series

import (
	"go/parser"
	"go/token"
	"math"
	"path/filepath"
	"slices"
	"strconv"
	"strings"
	"testing"

	"armillary/api"
	"armillary/interval"
	"armillary/ode"
	"armillary/tape"
	"armillary/taylor"
)

// Tests of P9.1: the functions for intervals return what I1 and I2 say. Those for
// Taylor models are in models_test.go.

const (
	one     = api.One
	largest = api.Max - 1
)

var entire = api.Interval{Lo: -api.Max, Hi: api.Max}

func between(lo, hi int64) api.Interval { return api.Interval{Lo: lo, Hi: hi} }

func point(x int64) api.Interval { return between(x, x) }

// whole returns the interval between two integers.
func whole(lo, hi int64) api.Interval { return between(lo*one, hi*one) }

// ratio returns a number that has no more than 16 fractional bits.
func ratio(n, d int64) api.Interval { return point(n * one / d) }

// integers returns intervals of one integer each.
func integers(l ...int64) []api.Interval {
	var points []api.Interval
	for _, n := range l {
		points = append(points, whole(n, n))
	}
	return points
}

// repeated returns n equal intervals.
func repeated(a api.Interval, n int) []api.Interval { return slices.Repeat([]api.Interval{a}, n) }

// compiled returns the tape of a system.
func compiled(t *testing.T, text string) api.Tape {
	t.Helper()
	s, at, err := ode.Parse(text)
	if err != api.OK {
		t.Fatalf("%q is no system: error %v at %d", text, err, at)
	}
	return tape.Compile(s)
}

// do returns an instruction with the given indices in its fields A and B.
func do(op int, at ...int) api.Instruction {
	fields := append(slices.Clone(at), 0, 0)
	return api.Instruction{Op: op, A: fields[0], B: fields[1]}
}

// value returns the instruction of a constant.
func value(a api.Interval) api.Instruction { return api.Instruction{Op: api.Num, C: a} }

// tapeOf returns a tape whose dimension is the number of its outputs.
func tapeOf(out []int, l ...api.Instruction) api.Tape {
	return api.Tape{N: len(out), L: l, Out: out}
}

// polynomial returns the text of a polynomial in time, whose coefficients are those
// of its series at the time 0.
func polynomial(l ...int64) string {
	text := "(" + strconv.FormatInt(l[0], 10)
	if len(l) > 1 {
		text += "+t*" + polynomial(l[1:]...)
	}
	return text + ")"
}

// solution returns the coefficients of a state variable, given the first and those
// of its derivative.
func solution(x api.Interval, derivative []api.Interval) []api.Interval {
	l := []api.Interval{x}
	for k, a := range derivative {
		l = append(l, interval.MulRatio(a, 1, int64(k+1)))
	}
	return l
}

func equalSeries(a, b [][]api.Interval) bool {
	return slices.EqualFunc(a, b, func(s, u []api.Interval) bool { return slices.Equal(s, u) })
}

func checkSeries(t *testing.T, call string, got [][]api.Interval, want ...[]api.Interval) {
	t.Helper()
	if !equalSeries(got, want) {
		t.Errorf("%s = %v, want %v", call, got, want)
	}
}

// operation is a right-hand side with the coefficients that it has if the state
// variable, x, and the start time are given.
type operation struct {
	f        string
	x, start api.Interval
	want     []api.Interval
}

// numeric returns operations on numbers, without rounding: they have the same
// coefficients in both domains. Those of x are few, as models round a third of them.
func numeric() []operation {
	zero, two := point(0), whole(2, 2)
	return []operation{
		// Constants.
		{"3", zero, two, integers(3, 0, 0, 0, 0, 0, 0, 0)},
		{"0", two, zero, integers(0, 0, 0)},
		{"all", zero, zero, append([]api.Interval{entire}, integers(0, 0, 0, 0, 0, 0, 0)...)},
		// State variables.
		{"x", two, zero, []api.Interval{two, two, whole(1, 1)}},
		{"x", zero, zero, integers(0, 0, 0, 0)},
		{"x", entire, zero, repeated(entire, 8)},
		// Time.
		{"t", zero, two, integers(2, 1, 0, 0, 0, 0, 0, 0)},
		{"t", zero, whole(-7, -7), integers(-7, 1, 0)},
		{"t", zero, entire, append([]api.Interval{entire}, integers(1, 0, 0, 0)...)},
		// Operations on the coefficients with one index.
		{"-t", zero, two, integers(-2, -1, 0, 0)},
		{"-" + polynomial(1, -2, 3, -4), zero, zero, integers(-1, 2, -3, 4, 0)},
		{polynomial(1, 2, 3) + "+" + polynomial(10, 0, -3, 7), zero, zero, integers(11, 2, 0, 7, 0)},
		{polynomial(1, 2, 3) + "-" + polynomial(10, 0, -3, 7), zero, zero, integers(-9, 2, 6, -7, 0)},
		{"t+t", zero, two, integers(4, 2, 0)},
		{"t-t", zero, two, integers(0, 0, 0)},
		{"t+all", zero, two, append([]api.Interval{entire}, integers(1, 0)...)},
		{"all-t", zero, two, append([]api.Interval{entire}, integers(-1, 0)...)},
		{"-all", zero, two, append([]api.Interval{entire}, integers(0, 0)...)},
		// Products.
		{polynomial(2, 3) + "*" + polynomial(5, -1), zero, zero, integers(10, 13, -3, 0, 0)},
		{polynomial(1, 2, 3) + "*" + polynomial(4, 5, 6, 7), zero, zero, integers(4, 13, 28, 34, 32, 21, 0, 0)},
		{"t*t", zero, two, integers(4, 4, 1, 0, 0, 0, 0, 0)},
		{"t*t*t", zero, two, integers(8, 12, 6, 1, 0, 0, 0, 0)},
		{"3*t", zero, two, integers(6, 3, 0)},
		{"t*3", zero, two, integers(6, 3, 0)},
		{"0*all", zero, zero, repeated(entire, 8)},
		{"t*all", zero, zero, repeated(entire, 8)},
		{"x*x", whole(1, 1), zero, integers(1, 2, 3)},
		// Squares.
		{"sqr(t)", zero, two, integers(4, 4, 1, 0, 0, 0, 0, 0)},
		{"sqr(" + polynomial(1, -2, 3) + ")", zero, zero, integers(1, -4, 10, -12, 9, 0, 0)},
		{"sqr(3)", zero, zero, integers(9, 0, 0)},
		{"sqr(all)", zero, zero, repeated(entire, 4)},
		{"sqr(x)", whole(1, 1), zero, integers(1, 2, 3)},
		// Quotients.
		{polynomial(1, 1) + "/" + polynomial(1, -1), zero, zero, integers(1, 2, 2, 2, 2, 2, 2, 2)},
		{polynomial(4, 13, 28, 34, 32, 21) + "/" + polynomial(1, 2, 3), zero, zero, integers(4, 5, 6, 7, 0, 0, 0, 0)},
		{polynomial(1, 1) + "/" + polynomial(1, 1), zero, zero, integers(1, 0, 0, 0)},
		{"1/x", whole(1, 1), zero, []api.Interval{whole(1, 1), whole(-1, -1), ratio(3, 2)}},
		{"6/3", zero, zero, integers(2, 0, 0, 0)},
		{"3/t", zero, whole(-1, -1), integers(-3, -3, -3, -3)},
		{"0/t", zero, two, integers(0, 0, 0)},
		// Quotients by what contains 0.
		{"1/t", zero, zero, repeated(entire, 8)},
		{"t/t", zero, zero, repeated(entire, 3)},
		{"3/0", zero, zero, repeated(entire, 3)},
		{"0/0", zero, zero, repeated(entire, 3)},
		{"1/all", zero, zero, repeated(entire, 3)},
		{"all/2", zero, zero, repeated(entire, 3)},
		{"t/(t-2)", zero, two, repeated(entire, 3)},
		// Square roots.
		{"sqrt(4)", zero, zero, integers(2, 0, 0, 0)},
		{"sqrt(" + polynomial(1, 2, 1) + ")", zero, zero, integers(1, 1, 0, 0, 0, 0, 0, 0)},
		{"sqrt(" + polynomial(4, 12, 1, -12, 4) + ")", zero, zero, integers(2, 3, -2, 0, 0, 0, 0, 0)},
		{"sqrt(1+t)", zero, zero, []api.Interval{whole(1, 1), ratio(1, 2), ratio(-1, 8), ratio(1, 16), ratio(-5, 128), ratio(7, 256), ratio(-21, 1024), ratio(33, 2048)}},
		{"sqrt(x)", whole(4, 4), zero, []api.Interval{two, ratio(1, 2), point(0), point(0)}},
		// Square roots of what is not positive.
		{"sqrt(t)", zero, zero, append([]api.Interval{zero}, repeated(entire, 7)...)},
		{"sqrt(0)", zero, zero, append([]api.Interval{zero}, repeated(entire, 2)...)},
		{"sqrt(t)", zero, point(-1), repeated(entire, 8)},
		{"sqrt(-4)", zero, zero, repeated(entire, 3)},
		{"sqrt(all)", zero, zero, repeated(entire, 3)},
	}
}

// ordered returns operations whose sums are bounded, or are not, only because they
// are added from left to right. Sums from 32768 on are out of range.
func ordered() []operation {
	zero, many := point(0), int64(20000)
	return []operation{
		// 20000 + 20000 - 20000, and -20000 + 20000 + 20000.
		{polynomial(100, 100, 100) + "*" + polynomial(-200, 200, 200), zero, zero, append(integers(-many, 0), entire)},
		{polynomial(100, 100, 100) + "*" + polynomial(200, 200, -200), zero, zero, []api.Interval{whole(many, many), entire, whole(many, many)}},
		// -20000 + 10000 - 20000, and 20000 - 20000 - 20000 + 20000.
		{"sqr(" + polynomial(100, 100, -200) + ")", zero, zero, append(integers(10000, many, -30000), entire)},
		{"sqr(" + polynomial(100, 100, -200, 200) + ")", zero, zero, integers(10000, many, -30000, 0)},
		// 20000 + 20000 - 20000, and -20000 + 20000 + 20000.
		{polynomial(1, 300, 20300) + "/" + polynomial(1, 200, 200, -many), zero, zero, append(integers(1, 100, 100), entire)},
		{polynomial(1, -100, -19700, 20005) + "/" + polynomial(1, -200, 200, many), zero, zero, integers(1, 100, 100, 5)},
		// 20000 - (-20000 + 20000), and 20000 - (20000 + 20000).
		{polynomial(1, -100, many) + "/" + polynomial(1, -200, many), zero, zero, integers(1, 100, many)},
		{polynomial(1, 300, many) + "/" + polynomial(1, 200, many), zero, zero, append(integers(1, 100), entire)},
		// -20000 + 10000 - 20000, and 20000 - (17000 + 17000).
		{"sqrt(" + polynomial(1, -200, 10200, -19600, -30000) + ")", zero, zero, integers(1, -100, 100, 200, 0)},
		{"sqrt(" + polynomial(1, 200, 10340, many) + ")", zero, zero, append(integers(1, 100, 170), entire)},
	}
}

func checkOperations(t *testing.T, l []operation) {
	t.Helper()
	for _, x := range l {
		c := compiled(t, "x'="+x.f)
		got := Coefficients(c, []api.Interval{x.x}, x.start, len(x.want))
		checkSeries(t, "Coefficients for "+x.f, got, solution(x.x, x.want))
	}
}

func TestOperationsOnNumbers(t *testing.T) { checkOperations(t, numeric()) }

func TestOrderOfSums(t *testing.T) { checkOperations(t, ordered()) }

func TestOperationsOnIntervals(t *testing.T) {
	zero, two, unit := point(0), whole(2, 2), whole(-1, 1)
	checkOperations(t, []operation{
		{"[-1, 2]", unit, zero, []api.Interval{whole(-1, 2), zero, zero, zero}},
		{"x", whole(1, 1), zero, []api.Interval{whole(1, 1), whole(1, 1), ratio(1, 2), between(10922, 10923), between(2730, 2731)}},
		{"x", unit, zero, []api.Interval{unit, unit, between(-one/2, one/2), between(-10923, 10923)}},
		{"t", zero, whole(1, 3), []api.Interval{whole(1, 3), whole(1, 1), zero, zero}},
		{"-[1, 2]*t", zero, two, []api.Interval{whole(-4, -2), whole(-2, -1), zero}},
		{"t+[1, 5]", zero, unit, []api.Interval{whole(0, 6), whole(1, 1), zero}},
		{"t-t", zero, unit, []api.Interval{whole(-2, 2), zero, zero}},
		{"x-x", unit, zero, []api.Interval{whole(-2, 2), whole(-4, 4), whole(-4, 4)}},
		// Equal operands are not known to be equal.
		{"t*t", zero, unit, []api.Interval{unit, whole(-2, 2), whole(1, 1), zero}},
		{"[-1, 2]*[-1, 2]", zero, zero, []api.Interval{whole(-2, 4), zero, zero}},
		{"[-1, 2]*[-3, 1]", zero, zero, []api.Interval{whole(-6, 3), zero, zero}},
		{"[1, 2]/[1, 2]", zero, zero, []api.Interval{between(one/2, 2*one), zero, zero}},
		{"([1, 2]+t)/([1, 2]+t)", zero, zero, []api.Interval{between(one/2, 2*one), between(-one, one/2), between(-one/2, one), between(-one, one/2)}},
		// Only coefficient 0 of a square is a square.
		{"sqr(t)", zero, unit, []api.Interval{whole(0, 1), whole(-2, 2), whole(1, 1), zero}},
		{"sqr([-1, 2]*t)", zero, whole(1, 1), []api.Interval{whole(0, 4), whole(-4, 8), whole(-2, 4), zero}},
		{"sqr([-3, -1])", zero, zero, []api.Interval{whole(1, 9), zero, zero}},
		// Quotients are rounded outward, one by one.
		{"(6+t)/3", zero, zero, []api.Interval{two, between(21845, 21846), zero, zero}},
		{"1/t", zero, whole(3, 4), []api.Interval{between(16384, 21846), between(-7282, -4096), between(1024, 2428), between(-810, -256)}},
		{"1/x", two, zero, []api.Interval{ratio(1, 2), ratio(-1, 8), ratio(3, 64)}},
		{"1/x", whole(1, 1), zero, []api.Interval{whole(1, 1), whole(-1, -1), ratio(3, 2), ratio(-5, 2)}},
		{"1/t", zero, unit, repeated(entire, 3)},
		{"1/t", zero, whole(0, 1), repeated(entire, 3)},
		{"1/t", zero, whole(-1, 0), repeated(entire, 3)},
		{"1/t", zero, between(1, one), repeated(entire, 3)},
		{"t/t", zero, between(1, 2), []api.Interval{between(one/2, 2*one), entire, entire}},
		// Square roots.
		{"sqrt([1, 4])", zero, zero, []api.Interval{whole(1, 2), zero, zero}},
		{"sqrt(t)", zero, whole(1, 4), []api.Interval{whole(1, 2), between(one/4, one/2), between(-one/8, -one/64)}},
		{"sqrt(1+[-1, 1]*t)", zero, zero, []api.Interval{whole(1, 1), between(-one/2, one/2), between(-one/8, one/8)}},
		{"sqrt(2)", zero, zero, []api.Interval{between(92681, 92682), zero, zero}},
		{"sqrt(t)", zero, whole(0, 4), append([]api.Interval{whole(0, 2)}, repeated(entire, 3)...)},
		{"sqrt(t)", zero, between(-1, 4*one), repeated(entire, 3)},
		{"sqrt(t)", zero, whole(-4, -1), repeated(entire, 3)},
		{"sqrt(t)", zero, between(1, 4*one), []api.Interval{between(256, 2*one), between(one/4, 128*one), entire}},
	})
}

// TestDivisionByIndex is about derivatives with a coefficient of few units.
func TestDivisionByIndex(t *testing.T) {
	for k := range api.MaxOrder {
		n := int64(k + 1)
		for units := int64(-20); units <= 20; units++ {
			// The derivative is the constant times the time to the power k, from 0 on.
			c := tapeOf([]int{1}, value(point(units)), value(point(one)))
			c.L = append(c.L, do(api.Time))
			last := 0
			for range k {
				c.L = append(c.L, do(api.Mul, last, 2))
				last = len(c.L) - 1
			}
			c.Out[0] = last
			want := repeated(point(0), k+1)
			lo, hi := units/n, units/n
			if units%n != 0 && units < 0 {
				lo--
			} else if units%n != 0 {
				hi++
			}
			want = append(want, between(lo, hi))
			if got := Coefficients(c, []api.Interval{point(0)}, point(0), k+1); !equalSeries(got, [][]api.Interval{want}) {
				t.Errorf("%d units become %v at index %d, want %v", units, got, n, want)
			}
		}
	}
}

func TestSystems(t *testing.T) {
	for _, x := range []struct {
		text  string
		x     []api.Interval
		order int
		want  [][]api.Interval
	}{
		{"x'=v\nv'=-x", integers(0, 1), 3, [][]api.Interval{{point(0), point(one), point(0), between(-10923, -10922)}, {point(one), point(0), point(-one / 2), point(0)}}},
		{"x'=y\ny'=x", integers(2, 6), 2, [][]api.Interval{integers(2, 6, 1), integers(6, 2, 3)}},
		{"x'=y*y\ny'=y*y+t", integers(0, 2), 2, [][]api.Interval{integers(0, 4, 18), append(integers(2, 9), ratio(37, 2))}},
		// Several outputs with one index.
		{"x'=x*y\ny'=x*y\nz'=x*y", integers(1, 2, 3), 2, [][]api.Interval{integers(1, 2, 3), integers(2, 2, 3), integers(3, 2, 3)}},
		{"x'=z\ny'=z\nz'=z", integers(1, 5, 2), 2, [][]api.Interval{integers(1, 2, 1), integers(5, 2, 1), integers(2, 2, 1)}},
		// One coordinate, and six.
		{"x'=1-x", integers(4), 2, [][]api.Interval{append(integers(4, -3), ratio(3, 2))}},
		{"a'=b\nb'=c\nc'=d\nd'=e\ne'=f\nf'=720", integers(0, 0, 0, 0, 0, 0), 8, [][]api.Interval{
			integers(0, 0, 0, 0, 0, 0, 1, 0, 0), integers(0, 0, 0, 0, 0, 6, 0, 0, 0), integers(0, 0, 0, 0, 30, 0, 0, 0, 0),
			integers(0, 0, 0, 120, 0, 0, 0, 0, 0), integers(0, 0, 360, 0, 0, 0, 0, 0, 0), integers(0, 720, 0, 0, 0, 0, 0, 0, 0),
		}},
		{"a'=f\nb'=e\nc'=d\nd'=c\ne'=b\nf'=a", integers(1, 2, 3, 4, 5, 6), 2, [][]api.Interval{
			append(integers(1, 6), ratio(1, 2)), integers(2, 5, 1), append(integers(3, 4), ratio(3, 2)), integers(4, 3, 2), append(integers(5, 2), ratio(5, 2)), integers(6, 1, 3),
		}},
		// Only what depends on the entire line is entire.
		{"x'=y\ny'=y-y\nz'=x", []api.Interval{point(0), entire, whole(3, 3)}, 2, [][]api.Interval{{point(0), entire, entire}, {entire, entire, entire}, {whole(3, 3), point(0), entire}}},
		// Orders 0 and 8.
		{"x'=1/x\ny'=y*x", []api.Interval{whole(-1, 1), entire}, 0, [][]api.Interval{{whole(-1, 1)}, {entire}}},
		{"x'=sqr(x)", integers(1), 8, [][]api.Interval{integers(1, 1, 1, 1, 1, 1, 1, 1, 1)}},
		{"x'=-sqr(x)", integers(1), 8, [][]api.Interval{integers(1, -1, 1, -1, 1, -1, 1, -1, 1)}},
	} {
		got := Coefficients(compiled(t, x.text), x.x, whole(5, 5), x.order)
		checkSeries(t, "Coefficients for "+x.text, got, x.want...)
	}
}

// TestTapes is about tapes that no system compiles to.
func TestTapes(t *testing.T) {
	x, v, time := do(api.Var, 0), do(api.Var, 1), do(api.Time)
	never := do(api.Div, 0, 1)
	box := []api.Interval{whole(3, 3), whole(5, 5)}
	for _, y := range []struct {
		c    api.Tape
		want [][]api.Interval
	}{
		// Instructions that no output depends on.
		{tapeOf([]int{0, 0}, time, x, v), [][]api.Interval{append(integers(3, 2), ratio(1, 2)), append(integers(5, 2), ratio(1, 2))}},
		{tapeOf([]int{0, 2}, time, value(point(0)), x, never, do(api.Sqrt, 1), do(api.Mul, 3, 3)), [][]api.Interval{append(integers(3, 2), ratio(1, 2)), integers(5, 3, 1)}},
		{tapeOf([]int{4, 5}, value(entire), value(point(0)), never, do(api.Sqr, 2), x, v), [][]api.Interval{{whole(3, 3), whole(3, 3), ratio(3, 2)}, {whole(5, 5), whole(5, 5), ratio(5, 2)}}},
		// Equal instructions, and outputs in another order.
		{tapeOf([]int{4, 2}, x, v, x, time, do(api.Sub, 2, 0)), [][]api.Interval{integers(3, 0, 0), integers(5, 3, 0)}},
		{tapeOf([]int{1, 0}, x, v), [][]api.Interval{append(integers(3, 5), ratio(3, 2)), append(integers(5, 3), ratio(5, 2))}},
		{tapeOf([]int{2, 3}, time, time, do(api.Mul, 0, 1), do(api.Mul, 1, 1)), [][]api.Interval{integers(3, 4, 2), integers(5, 4, 2)}},
	} {
		checkSeries(t, "Coefficients", Coefficients(y.c, box, whole(2, 2), 2), y.want...)
		checkSeries(t, "Coefficients", Coefficients(tape.Optimize(y.c), box, whole(2, 2), 2), y.want...)
	}
}

// doublings returns the given number of instructions, each of which doubles the
// value of that before it, behind the first coordinate.
func doublings(n int) []api.Instruction {
	l := []api.Instruction{do(api.Var, 0)}
	for i := range n {
		l = append(l, do(api.Add, i, i))
	}
	return l
}

// TestLongTapes is about tapes with as many instructions as there may be.
func TestLongTapes(t *testing.T) {
	c := tapeOf([]int{10}, doublings(399)...)
	want := []api.Interval{point(1), point(1 << 10), point(1 << 19)}
	checkSeries(t, "Coefficients of 10 doublings", Coefficients(c, []api.Interval{point(1)}, point(0), 2), want)
	c.Out[0] = 399
	checkSeries(t, "Coefficients of 399 doublings", Coefficients(c, []api.Interval{point(0)}, point(0), 8), repeated(point(0), 9))
	checkSeries(t, "Coefficients of 399 doublings", Coefficients(c, []api.Interval{point(1)}, point(0), 8), append([]api.Interval{point(1)}, repeated(entire, 8)...))
	roots := []api.Instruction{do(api.Var, 0)}
	for i := range 399 {
		roots = append(roots, do([]int{api.Sqrt, api.Sqr, api.Div, api.Mul}[i%4], i, i))
	}
	got := Coefficients(tapeOf([]int{399}, roots...), integers(1), point(0), 8)
	if len(got) != 1 || len(got[0]) != 9 || got[0][1] != point(one) {
		t.Errorf("Coefficients = %v", got)
	}
}

func TestEval(t *testing.T) {
	half := between(0, one/2)
	for _, x := range []struct {
		l    []api.Interval
		h    api.Interval
		want api.Interval
	}{
		// One coefficient, at any time.
		{integers(5), point(0), whole(5, 5)},
		{integers(5), whole(-3, 3), whole(5, 5)},
		{integers(5), entire, whole(5, 5)},
		{[]api.Interval{entire}, point(0), entire},
		// Several, from the last to the first.
		{integers(1, 2, 3), whole(2, 2), whole(17, 17)},
		{integers(3, 2, 1), whole(2, 2), whole(11, 11)},
		{integers(1, -2), whole(0, 1), whole(-1, 1)},
		{integers(1, 1, 1, 1, 1, 1, 1, 1, 1), whole(2, 2), whole(511, 511)},
		{[]api.Interval{whole(-1, 1), whole(2, 3)}, whole(-1, 2), whole(-4, 7)},
		{[]api.Interval{whole(4, 4), whole(-1, 2), whole(1, 1)}, half, between(7*one/2, 21*one/4)},
		// Not the powers of the time.
		{integers(0, 0, 1), whole(-1, 1), whole(-1, 1)},
		{integers(0, 1, 1), whole(-1, 0), whole(-1, 0)},
		// Rounded outward at each step.
		{[]api.Interval{point(0), point(1)}, ratio(1, 2), between(0, 1)},
		{[]api.Interval{point(0), point(-1)}, ratio(1, 2), between(-1, 0)},
		{[]api.Interval{point(0), point(0), point(1)}, ratio(1, 2), between(0, 1)},
		{[]api.Interval{point(7), point(1), point(1)}, ratio(1, 2), between(7, 8)},
		{[]api.Interval{point(7), point(2), point(1)}, ratio(1, 2), between(8, 9)},
		// The time 0.
		{integers(5, 6), point(0), whole(5, 5)},
		{[]api.Interval{whole(-1, 2), point(largest), whole(3, 4)}, point(0), whole(-1, 2)},
		{[]api.Interval{point(1), entire}, point(0), entire},
		{[]api.Interval{entire, point(1)}, point(0), entire},
		{[]api.Interval{point(1), point(1), entire}, point(0), entire},
		// Any time.
		{integers(1, 0), entire, entire},
		{integers(0, 0, 0), entire, entire},
		// Out of range before the next coefficient comes.
		{integers(-20000, 20000), whole(2, 2), entire},
		{integers(-20000, 10000), whole(2, 2), point(0)},
		{integers(0, -20000, 20000), whole(1, 1), point(0)},
		{integers(0, 20000, 20000), whole(1, 1), entire},
	} {
		if got := Eval([][]api.Interval{x.l}, x.h); !slices.Equal(got, []api.Interval{x.want}) {
			t.Errorf("Eval(%v, %v) = %v, want %v", x.l, x.h, got, x.want)
		}
		got := Eval([][]api.Interval{x.l, integers(7), x.l, x.l, integers(9), {entire}}, x.h)
		if want := []api.Interval{x.want, whole(7, 7), x.want, x.want, whole(9, 9), entire}; !slices.Equal(got, want) {
			t.Errorf("Eval of several series = %v, want %v", got, want)
		}
	}
	if got := Eval(nil, whole(1, 1)); len(got) != 0 {
		t.Errorf("Eval of no series = %v", got)
	}
}

// TestExamples is about the examples of the chapter.
func TestExamples(t *testing.T) {
	l := Coefficients(compiled(t, "x'=x"), integers(1), point(0), 3)
	checkSeries(t, "Coefficients", l, []api.Interval{whole(1, 1), whole(1, 1), ratio(1, 2), between(10922, 10923)})
	checkSeries(t, "Coefficients", Coefficients(compiled(t, "x'=2"), integers(5), point(0), 2), integers(5, 2, 0))
	if got := Eval(l, point(0)); !slices.Equal(got, integers(1)) {
		t.Errorf("Eval at 0 = %v", got)
	}
}

// oddTapes returns tapes that are not valid.
func oddTapes() []api.Tape {
	loop := []api.Instruction{do(api.Add, 1, 1), do(api.Add, 0, 0)}
	return []api.Tape{
		{}, {N: 1}, {N: math.MaxInt}, {N: math.MinInt, Out: []int{0}}, {N: 1, Out: []int{0}}, {N: 1, Out: []int{-1}}, {N: 1, L: doublings(1)}, {N: 3, L: doublings(1), Out: []int{0}}, {N: 7, L: doublings(1), Out: make([]int, 7)}, {L: doublings(1), Out: []int{0}},
		tapeOf([]int{0, 1}, loop...), tapeOf([]int{0}, do(api.Neg, 0)), tapeOf([]int{0}, do(api.Div, -1, math.MaxInt)), tapeOf([]int{1}, do(api.Sqrt, 1), do(api.Sqr, 0)), tapeOf([]int{1}, do(api.Time)), tapeOf([]int{math.MinInt}, do(api.Time)),
		tapeOf([]int{0}, api.Instruction{}), tapeOf([]int{0}, do(11)), tapeOf([]int{0}, do(-1)), tapeOf([]int{1}, do(api.Time), do(math.MaxInt)), tapeOf([]int{0}, do(api.Var, 1)), tapeOf([]int{0}, do(api.Var, -1)), tapeOf([]int{0}, do(api.Var, math.MaxInt)),
		tapeOf([]int{0}, value(between(1, 0))), tapeOf([]int{0}, value(between(math.MinInt64, math.MaxInt64))), tapeOf([]int{400}, doublings(400)...), tapeOf([]int{999}, doublings(999)...), tapeOf([]int{1}, do(api.Time), api.Instruction{Op: api.Neg, B: 7, C: point(1)}),
		tapeOf([]int{1}, do(api.Var, 0), api.Instruction{Op: api.Sqr, B: 1}), tapeOf([]int{1}, do(api.Var, 0), api.Instruction{Op: api.Sqrt, B: -1}),
	}
}

// every returns a tape with all operations.
func every() api.Tape {
	return tapeOf([]int{8, 9}, do(api.Var, 0), do(api.Var, 1), do(api.Time), value(whole(1, 2)), do(api.Div, 0, 1), do(api.Sqrt, 4), do(api.Sqr, 5), do(api.Neg, 6), do(api.Mul, 7, 3), do(api.Sub, 8, 2), do(api.Add, 9, 8))
}

// TestNothingPanics calls all functions with all kinds of arguments, those for
// which nothing else is specified among them.
func TestNothingPanics(t *testing.T) {
	boxes := [][]api.Interval{nil, {entire}, {between(1, 0)}, {whole(1, 2), between(1, 0)}, {point(api.Max), between(5, 0)}, {between(math.MinInt64, math.MaxInt64), between(math.MaxInt64, math.MinInt64)}, make([]api.Interval, 7)}
	term := api.Term{C: math.MinInt64, E: [6]uint8{255, 255, 7}}
	for _, c := range append(oddTapes(), every(), tapeOf([]int{399}, doublings(399)...)) {
		for i, b := range boxes {
			start := boxes[(i+2)%len(boxes)]
			for _, order := range []int{0, 1, 8, 9, -1, math.MaxInt, math.MinInt} {
				l := Coefficients(c, b, entire, order)
				Eval(append(l, nil, start), between(5, 0))
				m := make([]api.TaylorModel, len(b))
				for k, a := range b {
					m[k] = api.TaylorModel{P: []api.Term{term, {C: 1}}[k%2:], R: a}
				}
				n := ModelCoefficients(c, m, api.Expansion{T: between(3, -3), Order: order, Deg: []int{0, 6, -1, 7, math.MaxInt, math.MinInt}[i%6]})
				EvalModels(append(n, nil, m), between(math.MinInt64, 0))
			}
		}
	}
}

// TestValidValues checks that coefficients and values are valid intervals whatever
// valid arguments they come from: P3 of the document.
func TestValidValues(t *testing.T) {
	l := []api.Interval{entire, point(0), point(1), point(-1), point(largest), point(-largest), between(-largest, largest), between(-1, 1), between(0, largest), between(-one, 0), between(one, 4*one)}
	for _, a := range l {
		for _, b := range l {
			box := []api.Interval{a, b}
			s := Coefficients(every(), box, a, 8)
			m := ModelCoefficients(every(), []api.TaylorModel{taylor.Var(0, a), taylor.Const(b)}, api.Expansion{T: b, Order: 8, Deg: 2})
			u, v := Eval(s, b), EvalModels(m, a)
			if len(s) != 2 || len(s[0]) != 9 || len(s[1]) != 9 || len(m) != 2 || len(m[0]) != 9 || len(m[1]) != 9 || len(u) != 2 || len(v) != 2 {
				t.Fatalf("%d and %d series, %d and %d values", len(s), len(m), len(u), len(v))
			}
			for _, x := range slices.Concat(s[0], s[1], u) {
				if !interval.Valid(x) {
					t.Errorf("%v is not valid, for %v", x, box)
				}
			}
			for _, x := range slices.Concat(m[0], m[1], v) {
				if !taylor.Valid(x) {
					t.Errorf("%v is not valid, for %v", x, box)
				}
			}
		}
	}
}

// TestImports checks that the package imports no other layers than interval and taylor.
func TestImports(t *testing.T) {
	files, err := filepath.Glob("*.go")
	if err != nil || len(files) == 0 {
		t.Fatal("no files", err)
	}
	allowed := []string{`"armillary/api"`, `"armillary/interval"`, `"armillary/taylor"`}
	for _, name := range files {
		if strings.HasSuffix(name, "_test.go") {
			continue
		}
		file, err := parser.ParseFile(token.NewFileSet(), name, nil, parser.ImportsOnly)
		if err != nil {
			t.Fatal(err)
		}
		for _, spec := range file.Imports {
			if path := spec.Path.Value; strings.HasPrefix(path, `"armillary`) && !slices.Contains(allowed, path) {
				t.Errorf("%s imports %s", name, path)
			}
		}
	}
}
