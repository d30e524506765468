package jacobian

import (
	goparser "go/parser"
	gotoken "go/token"
	"math"
	"path/filepath"
	"slices"
	"strings"
	"testing"

	"armillary/api"
	"armillary/interval"
	"armillary/ode"
)

// Tests of P10.1: the functions return what J1 to J4 say.

const (
	one     = api.One
	largest = api.Max - 1
)

var entire = api.Interval{Lo: -api.Max, Hi: api.Max}

func between(lo, hi int64) api.Interval { return api.Interval{Lo: lo, Hi: hi} }

func point(x int64) api.Interval { return between(x, x) }

// whole returns the interval between two whole numbers.
func whole(lo, hi int64) api.Interval { return between(lo*one, hi*one) }

// num, constant, variable, now and join return expressions.
func num(a api.Interval) []api.Node { return []api.Node{{Op: api.Num, C: a}} }

func constant(x int64) []api.Node { return num(point(x)) }

func variable(i int) []api.Node { return []api.Node{{Op: api.Var, N: i}} }

func now() []api.Node { return []api.Node{{Op: api.Time}} }

func join(op int, operands ...[]api.Node) []api.Node {
	return append([]api.Node{{Op: op}}, slices.Concat(operands...)...)
}

var names = []string{"x", "v", "w"}

// parse returns the expression with the given text.
func parse(t *testing.T, text string) []api.Node {
	t.Helper()
	e, offset, err := ode.ParseExpr(text, names)
	if err != api.OK {
		t.Fatalf("ParseExpr(%q) = %d, %v", text, offset, err)
	}
	return e
}

// systemOf returns the system with the given text.
func systemOf(t *testing.T, text string) api.System {
	t.Helper()
	s, offset, err := ode.Parse(text)
	if err != api.OK {
		t.Fatalf("Parse(%q) = %d, %v", text, offset, err)
	}
	return s
}

// text returns the text of an expression.
func text(e []api.Node) string { return ode.FormatExpr(e, names) }

// simplification is the text of an expression and that of its simplification.
type simplification struct{ from, to string }

func checkSimplify(t *testing.T, l []simplification) {
	t.Helper()
	for _, x := range l {
		if got := Simplify(parse(t, x.from)); !slices.Equal(got, parse(t, x.to)) {
			t.Errorf("Simplify(%q) = %q, want %q", x.from, text(got), x.to)
		}
	}
}

// unchanged returns simplifications that do nothing.
func unchanged(l ...string) []simplification {
	var same []simplification
	for _, s := range l {
		same = append(same, simplification{s, s})
	}
	return same
}

func TestSimplifyLeaves(t *testing.T) {
	l := [][]api.Node{variable(0), variable(1), variable(5), now(), num(entire), num(between(-largest, largest)), num(between(0, 1)), num(between(-1, 0))}
	for _, x := range []int64{0, 1, -1, one, -one, 2 * one, one / 2, largest, -largest} {
		l = append(l, constant(x))
	}
	for _, e := range l {
		if got := Simplify(e); !slices.Equal(got, e) {
			t.Errorf("Simplify(%v) = %v", e, got)
		}
	}
}

func TestSimplifyNeg(t *testing.T) {
	checkSimplify(t, []simplification{
		{"-0", "0"}, {"-1", "[-1,-1]"}, {"-[-1,-1]", "1"}, {"-2.5", "[-2.5,-2.5]"}, {"-[-2.5,-2.5]", "2.5"}, {"-32767.9999847412109375", "[-32767.9999847412109375,-32767.9999847412109375]"}, {"-[-32767.9999847412109375,-32767.9999847412109375]", "32767.9999847412109375"},
		{"--x", "x"}, {"--t", "t"}, {"---x", "-x"}, {"----x", "x"}, {"--[1,2]", "[1,2]"}, {"--all", "all"}, {"--3", "3"}, {"---3", "[-3,-3]"}, {"--(x*v)", "x*v"}, {"---(x+v)", "-(x+v)"}, {"--sqrt(-x)", "sqrt(-x)"},
	})
	checkSimplify(t, unchanged("-x", "-v", "-t", "-all", "-[1,2]", "-[-1,1]", "-[0,1]", "-[-1,0]", "-[1,1.0000152587890625]", "-(x+v)", "-(x-v)", "-(x*v)", "-(x/v)", "-sqr(x)", "-sqrt(x)", "-sqr(-x)"))
}

func TestSimplifySqrAndSqrt(t *testing.T) {
	for _, function := range []string{"sqr", "sqrt"} {
		checkSimplify(t, []simplification{{function + "(0)", "0"}, {function + "(1)", "1"}, {function + "([0,0])", "0"}, {function + "([1,1])", "1"}, {function + "(-0)", "0"}, {function + "(-[-1,-1])", "1"}})
		for _, operand := range []string{"x", "t", "2", "4", "0.5", "0.25", "[-1,-1]", "[-4,-4]", "[0,1]", "[-1,0]", "[1,2]", "[-1,1]", "all", "0.0000152587890625", "0.9999847412109375", "1.0000152587890625", "[0,0.0000152587890625]", "x*v", "-x", "sqr(x)", "sqrt(x)"} {
			checkSimplify(t, unchanged(function+"("+operand+")"))
		}
	}
}

func TestSimplifyAdd(t *testing.T) {
	checkSimplify(t, []simplification{
		{"0+x", "x"}, {"x+0", "x"}, {"0+0", "0"}, {"0+3", "3"}, {"3+0", "3"}, {"0+[1,2]", "[1,2]"}, {"[1,2]+0", "[1,2]"}, {"0+all", "all"}, {"all+0", "all"}, {"0+t", "t"}, {"t+0", "t"}, {"0+x*v", "x*v"}, {"x*v+0", "x*v"}, {"0+-x", "-x"},
		{"2+3", "5"}, {"1+1", "2"}, {"2+[-3,-3]", "[-1,-1]"}, {"1+[-1,-1]", "0"}, {"[-1,-1]+[-2,-2]", "[-3,-3]"}, {"32767+0.5", "32767.5"}, {"2+-3", "[-1,-1]"},
	})
	checkSimplify(t, unchanged(
		"x+x", "x+v", "x+1", "1+x", "x+t", "x+-v", "x+-x", "-x+x", "[0,1]+x", "x+[-1,0]", "[0,0.0000152587890625]+x", "all+x", "[1,2]+3", "3+[1,2]", "[1,2]+[1,2]", "all+1", "1+all", "all+all",
		"32767+1", "1+32767", "32767.9999847412109375+0.0000152587890625", "[-32767,-32767]+[-1,-1]", "20000+20000", "(x+1)+2", "1+(2+x)", "2*x+3*x",
	))
}

func TestSimplifySub(t *testing.T) {
	checkSimplify(t, []simplification{
		{"x-0", "x"}, {"0-0", "0"}, {"3-0", "3"}, {"[1,2]-0", "[1,2]"}, {"all-0", "all"}, {"t-0", "t"}, {"-x-0", "-x"}, {"x/v-0", "x/v"},
		{"0-x", "-x"}, {"0-t", "-t"}, {"0-[1,2]", "-[1,2]"}, {"0-all", "-all"}, {"0-x*v", "-(x*v)"}, {"0-(x-v)", "-(x-v)"},
		// The simplification of Neg B is simplified itself.
		{"0-3", "[-3,-3]"}, {"0-[-3,-3]", "3"}, {"0-1", "[-1,-1]"}, {"0--x", "x"}, {"0--[1,2]", "[1,2]"}, {"0--all", "all"}, {"0-(0-x)", "x"}, {"0-(0-(0-x))", "-x"}, {"0---x", "-x"}, {"0-(-(x*v))", "x*v"}, {"0--3", "3"}, {"0-(1-1)", "0"},
		{"3-2", "1"}, {"2-3", "[-1,-1]"}, {"1-1", "0"}, {"1-[-1,-1]", "2"}, {"[-1,-1]-[-1,-1]", "0"}, {"[-32767,-32767]-0.5", "[-32767.5,-32767.5]"},
	})
	checkSimplify(t, unchanged(
		"x-x", "x-v", "v-x", "x-1", "1-x", "x--v", "-x-v", "[0,1]-x", "x-[0,1]", "[-1,0]-x", "all-x", "[1,2]-1", "1-[1,2]", "[1,2]-[1,2]", "all-1", "1-all", "all-all",
		"[-32767,-32767]-1", "32767-[-1,-1]", "[-32767.9999847412109375,-32767.9999847412109375]-0.0000152587890625", "(x-1)-2",
	))
}

func TestSimplifyMul(t *testing.T) {
	checkSimplify(t, []simplification{
		{"0*x", "0"}, {"x*0", "0"}, {"0*0", "0"}, {"0*all", "0"}, {"all*0", "0"}, {"0*[1,2]", "0"}, {"[1,2]*0", "0"}, {"0*3", "0"}, {"3*0", "0"}, {"0*(x/v)", "0"}, {"sqrt(x)*0", "0"}, {"t*0", "0"},
		{"1*x", "x"}, {"x*1", "x"}, {"1*1", "1"}, {"1*all", "all"}, {"all*1", "all"}, {"1*[1,2]", "[1,2]"}, {"[1,2]*1", "[1,2]"}, {"1*3", "3"}, {"3*1", "3"}, {"1*(x/v)", "x/v"}, {"-x*1", "-x"}, {"1*-x", "-x"},
		{"0*1", "0"}, {"1*0", "0"}, {"2*3", "6"}, {"0.5*0.5", "0.25"}, {"0.5*2", "1"}, {"[-1,-1]*2", "[-2,-2]"}, {"[-1,-1]*[-1,-1]", "1"}, {"181*181", "32761"}, {"0.00390625*0.00390625", "0.0000152587890625"}, {"0.5*[-0.000030517578125,-0.000030517578125]", "[-0.0000152587890625,-0.0000152587890625]"},
	})
	checkSimplify(t, unchanged(
		"x*x", "x*v", "2*x", "x*2", "[-1,-1]*x", "x*[-1,-1]", "0.9999847412109375*x", "0.0000152587890625*x", "[0,1]*x", "x*[0,1]", "[1,2]*x", "x*[0,0.0000152587890625]", "x*[1,1.0000152587890625]", "2*[1,2]", "[1,2]*[1,2]", "all*x", "2*all", "all*all", "-x*-v",
		// Products that are no points, and those that are unbounded.
		"0.5*0.0000152587890625", "0.0000152587890625*0.5", "0.5*[-0.0000152587890625,-0.0000152587890625]", "0.00390625*0.0000152587890625", "0.0000152587890625*0.0000152587890625", "1.0000152587890625*1.0000152587890625", "182*182", "2*16384", "[-2,-2]*16384", "32767*32767", "x*2*3",
	))
}

func TestSimplifyDiv(t *testing.T) {
	checkSimplify(t, []simplification{
		{"0/x", "0"}, {"0/0", "0"}, {"0/1", "0"}, {"0/3", "0"}, {"0/all", "0"}, {"0/[-1,1]", "0"}, {"0/t", "0"}, {"0/(x/v)", "0"}, {"0/-x", "0"},
		{"x/1", "x"}, {"1/1", "1"}, {"3/1", "3"}, {"all/1", "all"}, {"[1,2]/1", "[1,2]"}, {"t/1", "t"}, {"x/v/1", "x/v"}, {"-x/1", "-x"},
	})
	checkSimplify(t, unchanged("x/v", "x/x", "1/x", "x/0", "1/0", "4/2", "2/2", "3/0.5", "x/2", "x/[-1,-1]", "[0,1]/x", "x/[0,1]", "x/[1,2]", "x/[1,1.0000152587890625]", "all/x", "x/all", "all/2"))
}

// TestSimplifyOperands is about operands that a rule applies to only when they are
// simplified, on both sides and at any depth.
func TestSimplifyOperands(t *testing.T) {
	checkSimplify(t, []simplification{
		{"(0*t+1)*(x-0)", "x"}, {"(x*0)*v", "0"}, {"v*(0*x)", "0"}, {"(1-1)+x", "x"}, {"x+(1-1)", "x"}, {"x-(2-2)", "x"}, {"(2-2)-x", "-x"}, {"(0.5+0.5)*x", "x"}, {"x*(2*0.5)", "x"}, {"x/(3-2)", "x"}, {"(1-1)/x", "0"},
		{"sqr(1-1)", "0"}, {"sqrt(0.5+0.5)", "1"}, {"sqr(sqrt(1))", "1"}, {"-(0-0)", "0"}, {"-(0-x)", "x"}, {"-(0--x)", "-x"}, {"--(0*x)", "0"}, {"-(0/x)", "0"}, {"0/(0*x)", "0"}, {"0*(1/0)", "0"}, {"0/x-v/1", "-v"},
		{"(x*0)-(-v)", "v"}, {"(2+3)*(4-2)", "10"}, {"(2*x)*(0.5*2)", "2*x"}, {"sqrt((x+0)*(1*v))", "sqrt(x*v)"}, {"x-(0-v)", "x--v"}, {"(0-x)+v", "-x+v"}, {"-(1*-x)", "x"}, {"-(-x/1)", "x"}, {"-(0+-x)", "x"},
		{"32767+1-1", "(32767+1)-1"}, {"(32767+1)*0", "0"}, {"(32767+1)*1", "32767+1"}, {"0-(32767+1)", "-(32767+1)"}, {"-(2+3)", "[-5,-5]"}, {"((((1*x)*1)+0)-0)/1", "x"}, {"1*(1*(0+(0+x)))", "x"}, {"0-((0-x)*1)", "x"},
		{"(x+0)+(v-0)", "x+v"}, {"(x+0)-(v-0)", "x-v"}, {"(x+0)*(v-0)", "x*v"}, {"(x+0)/(v-0)", "x/v"}, {"-(x+0)", "-x"}, {"sqr(x+0)", "sqr(x)"},
	})
}

// TestSimplifyPoints has all pairs of some points.
func TestSimplifyPoints(t *testing.T) {
	l := []int64{0, 1, 2, -1, -2, 3, 255, 256, 257, -256, one - 1, one, one + 1, -one, 2 * one, one / 2, -one / 2, 181 * one, -182 * one, 1 << 30, -1 << 30, largest, -largest, largest / 2, largest/2 + 1}
	for _, a := range l {
		checkPoint(t, join(api.Neg, constant(a)), -a, true)
		for _, b := range l {
			checkPoint(t, join(api.Add, constant(a), constant(b)), a+b, true)
			checkPoint(t, join(api.Sub, constant(a), constant(b)), a-b, true)
			checkPoint(t, join(api.Mul, constant(a), constant(b)), a*b/one, a*b%one == 0)
		}
	}
}

// checkPoint checks that an operation on points becomes a point, if its result is
// exact and a number.
func checkPoint(t *testing.T, e []api.Node, x int64, exact bool) {
	t.Helper()
	want := e
	if exact && -api.Max < x && x < api.Max {
		want = constant(x)
	}
	if got := Simplify(e); !slices.Equal(got, want) {
		t.Errorf("Simplify(%v) = %v, want %v", e, got, want)
	}
}

// TestDiff has expressions with their derivatives by x, by v and by the time.
func TestDiff(t *testing.T) {
	for _, y := range []struct{ e, x, v, time string }{
		{"x", "1", "0", "0"}, {"v", "0", "1", "0"}, {"w", "0", "0", "0"}, {"t", "0", "0", "1"},
		{"3", "0", "0", "0"}, {"0", "0", "0", "0"}, {"[1,2]", "0", "0", "0"}, {"all", "0", "0", "0"},
		{"-x", "[-1,-1]", "0", "0"}, {"-v", "0", "[-1,-1]", "0"}, {"-t", "0", "0", "[-1,-1]"}, {"-2", "0", "0", "0"}, {"--x", "1", "0", "0"}, {"-(x*v)", "-v", "-x", "0"}, {"-sqr(x)", "-(2*x)", "0", "0"}, {"-(t*x)", "-t", "0", "-x"},
		{"x+v", "1", "1", "0"}, {"v+x", "1", "1", "0"}, {"x+x", "2", "0", "0"}, {"x+t", "1", "0", "1"}, {"t+t", "0", "0", "2"}, {"x+1", "1", "0", "0"}, {"1+x", "1", "0", "0"}, {"sqr(x)+x*v", "2*x+v", "x", "0"}, {"v*t+sqr(t)", "0", "t", "v+2*t"}, {"x+-x", "0", "0", "0"},
		{"x-v", "1", "[-1,-1]", "0"}, {"v-x", "[-1,-1]", "1", "0"}, {"x-x", "0", "0", "0"}, {"t-x", "[-1,-1]", "0", "1"}, {"x-t", "1", "0", "[-1,-1]"}, {"x-1", "1", "0", "0"}, {"1-x", "[-1,-1]", "0", "0"}, {"x-sqr(x)", "1-2*x", "0", "0"}, {"1-sqr(x)", "-(2*x)", "0", "0"}, {"1--x", "1", "0", "0"}, {"1--(x*v)", "v", "x", "0"}, {"x*v-v", "v", "x-1", "0"}, {"-x-t", "[-1,-1]", "0", "[-1,-1]"},
		{"x*v", "v", "x", "0"}, {"v*x", "v", "x", "0"}, {"x*x", "x+x", "0", "0"}, {"x*t", "t", "0", "x"}, {"t*x", "t", "0", "x"}, {"t*t", "0", "0", "t+t"}, {"3*x", "3", "0", "0"}, {"x*3", "3", "0", "0"}, {"0*x", "0", "0", "0"}, {"x*0", "0", "0", "0"}, {"1*x", "1", "0", "0"}, {"[1,2]*x", "[1,2]", "0", "0"}, {"all*x", "all", "0", "0"}, {"x*all", "all", "0", "0"}, {"2*3", "0", "0", "0"},
		{"x*v*w", "v*w", "x*w", "0"}, {"x*(v*w)", "v*w", "x*w", "0"}, {"x*x*x", "(x+x)*x+x*x", "0", "0"}, {"sqr(x)*v", "(2*x)*v", "sqr(x)", "0"}, {"sqr(x)*x", "(2*x)*x+sqr(x)", "0", "0"}, {"-x*v", "[-1,-1]*v", "-x", "0"}, {"(x+v)*(x-v)", "(x-v)+(x+v)", "(x-v)+(x+v)*[-1,-1]", "0"}, {"(x+0)*v", "v", "x", "0"}, {"(1*x)*(v-0)", "v", "x", "0"},
		{"x/v", "v/sqr(v)", "-x/sqr(v)", "0"}, {"1/x", "[-1,-1]/sqr(x)", "0", "0"}, {"2/x", "[-2,-2]/sqr(x)", "0", "0"}, {"-1/x", "1/sqr(x)", "0", "0"}, {"-x/v", "([-1,-1]*v)/sqr(v)", "x/sqr(v)", "0"}, {"0/x", "0", "0", "0"}, {"x/2", "2/sqr(2)", "0", "0"}, {"x/1", "1", "0", "0"}, {"x/0", "0", "0", "0"}, {"x/x", "(x-x)/sqr(x)", "0", "0"}, {"t/x", "-t/sqr(x)", "0", "x/sqr(x)"}, {"x/t", "t/sqr(t)", "0", "-x/sqr(t)"}, {"1/t", "0", "0", "[-1,-1]/sqr(t)"}, {"sqr(x)/(x+v)", "((2*x)*(x+v)-sqr(x))/sqr(x+v)", "-sqr(x)/sqr(x+v)", "0"}, {"x/(x*v)", "(x*v-x*v)/sqr(x*v)", "-(x*x)/sqr(x*v)", "0"}, {"4/2", "0", "0", "0"}, {"all/x", "-all/sqr(x)", "0", "0"}, {"x/(v+0)", "v/sqr(v)", "-x/sqr(v)", "0"},
		{"sqr(x)", "2*x", "0", "0"}, {"sqr(v)", "0", "2*v", "0"}, {"sqr(t)", "0", "0", "2*t"}, {"sqr(3)", "0", "0", "0"}, {"sqr(2*x)", "(2*(2*x))*2", "0", "0"}, {"sqr(x+v)", "2*(x+v)", "2*(x+v)", "0"}, {"sqr(-x)", "(2*-x)*[-1,-1]", "0", "0"}, {"sqr(sqr(x))", "(2*sqr(x))*(2*x)", "0", "0"}, {"sqr(x*v)", "(2*(x*v))*v", "(2*(x*v))*x", "0"}, {"sqr(x*t)", "(2*(x*t))*t", "0", "(2*(x*t))*x"}, {"sqr(0*x)", "0", "0", "0"}, {"sqr(x-0)", "2*x", "0", "0"}, {"sqr(all)", "0", "0", "0"},
		{"sqrt(x)", "1/(2*sqrt(x))", "0", "0"}, {"sqrt(v)", "0", "1/(2*sqrt(v))", "0"}, {"sqrt(t)", "0", "0", "1/(2*sqrt(t))"}, {"sqrt(2)", "0", "0", "0"}, {"sqrt(x*v)", "v/(2*sqrt(x*v))", "x/(2*sqrt(x*v))", "0"}, {"sqrt(sqr(x))", "(2*x)/(2*sqrt(sqr(x)))", "0", "0"}, {"sqrt(-x)", "[-1,-1]/(2*sqrt(-x))", "0", "0"}, {"sqrt(1*x)", "1/(2*sqrt(x))", "0", "0"}, {"sqrt(1+0*x)", "0", "0", "0"}, {"sqrt(sqrt(x))", "(1/(2*sqrt(x)))/(2*sqrt(sqrt(x)))", "0", "0"}, {"sqrt(x+t)", "1/(2*sqrt(x+t))", "0", "1/(2*sqrt(x+t))"}, {"sqrt(all)", "0", "0", "0"},
	} {
		e := parse(t, y.e)
		for i, want := range []string{y.x, y.v} {
			if got := Diff(e, i); !slices.Equal(got, parse(t, want)) {
				t.Errorf("Diff(%q, %d) = %q, want %q", y.e, i, text(got), want)
			}
		}
		if got := TimeDerivative(e); !slices.Equal(got, parse(t, y.time)) {
			t.Errorf("TimeDerivative(%q) = %q, want %q", y.e, text(got), y.time)
		}
	}
}

// TestDiffOfLeaves has all variables and the time.
func TestDiffOfLeaves(t *testing.T) {
	zeroOrOne := map[bool][]api.Node{false: constant(0), true: constant(one)}
	for i := range api.MaxDim {
		for j := range api.MaxDim {
			if got := Diff(variable(i), j); !slices.Equal(got, zeroOrOne[i == j]) {
				t.Errorf("the derivative of variable %d by variable %d is %v", i, j, got)
			}
		}
		if got := TimeDerivative(variable(i)); !slices.Equal(got, constant(0)) {
			t.Errorf("the derivative of variable %d by the time is %v", i, got)
		}
		if got := Diff(now(), i); !slices.Equal(got, constant(0)) {
			t.Errorf("the derivative of the time by variable %d is %v", i, got)
		}
	}
}

// power returns the product of n copies of a node.
func power(e []api.Node, n int) []api.Node {
	return slices.Concat(slices.Repeat(join(api.Mul), n-1), slices.Repeat(e, n))
}

// powerDerivative returns the simplified derivative of the product of n copies of a
// node by it, where n is at least 2.
func powerDerivative(e []api.Node, n int) []api.Node {
	d := join(api.Add, e, e)
	for k := 2; k < n; k++ {
		d = join(api.Add, join(api.Mul, d, e), power(e, k))
	}
	return d
}

// TestLongDerivatives is about derivatives that are too long to be valid expressions.
func TestLongDerivatives(t *testing.T) {
	e := power(variable(0), 100)
	d, late := Diff(e, 0), TimeDerivative(power(now(), 100))
	if want := powerDerivative(variable(0), 100); len(e) != 199 || len(d) < 5000 || !slices.Equal(d, want) {
		t.Errorf("the derivative of an expression of %d nodes has %d nodes, want %d", len(e), len(d), len(want))
	}
	if want := powerDerivative(now(), 100); !slices.Equal(late, want) {
		t.Errorf("the derivative by the time has %d nodes, want %d", len(late), len(want))
	}
	for _, l := range [][]api.Node{d, late} {
		if got := Simplify(l); !slices.Equal(got, l) {
			t.Errorf("an expression of %d nodes is simplified to one of %d nodes", len(l), len(got))
		}
	}
	s := api.System{Names: names[:2], F: [][]api.Node{e, constant(3 * one)}}
	for _, y := range []struct {
		x, want api.Interval
	}{{point(one), whole(100, 100)}, {point(-one), whole(-100, -100)}, {whole(-1, 1), whole(-100, 100)}, {point(0), point(0)}, {whole(0, 1), whole(0, 100)}, {point(2 * one), entire}, {entire, entire}} {
		box := []api.Interval{y.x, point(0)}
		if got := Matrix(s, box, point(0)); !equalMatrices(got, [][]api.Interval{{y.want, point(0)}, {point(0), point(0)}}) {
			t.Errorf("the derivatives at %v are %v, want %v", y.x, got, y.want)
		}
		// The rate of the same product of v, and of the time, as v' = 3.
		if got, want := LieDerivative(s, power(variable(1), 100), []api.Interval{point(0), y.x}, point(0)), interval.Mul(y.want, point(3*one)); got != want {
			t.Errorf("the rate at %v is %v, want %v", y.x, got, want)
		}
		if got := LieDerivative(s, power(now(), 100), []api.Interval{entire, entire}, y.x); got != y.want {
			t.Errorf("the rate at the time %v is %v, want %v", y.x, got, y.want)
		}
	}
}

// TestLongestDerivatives is about expressions of 200 nodes whose derivatives are as
// long as they can be.
func TestLongestDerivatives(t *testing.T) {
	for _, y := range []struct {
		op   int
		x    int64
		want api.Interval
	}{{api.Sqr, 0, point(0)}, {api.Sqr, one, entire}, {api.Sqrt, one, between(0, 1)}, {api.Neg, one, point(-one)}} {
		e := append(slices.Repeat(join(y.op), 199), variable(0)...)
		s := api.System{Names: names[:1], F: [][]api.Node{e}}
		x := []api.Interval{point(y.x)}
		if got := Matrix(s, x, point(0)); !equalMatrices(got, [][]api.Interval{{y.want}}) {
			t.Errorf("the derivative of operation %d, 199 times, at %d is %v, want %v", y.op, y.x, got, y.want)
		}
	}
	e := constant(one)
	for range 99 {
		e = join(api.Div, variable(0), e)
	}
	if d := Diff(e, 0); len(d) < 10000 || ode.Eval(d, []api.Interval{point(one)}, point(0)) != point(one) {
		t.Errorf("the derivative of a quotient has %d nodes, and the value %v", len(d), ode.Eval(d, []api.Interval{point(one)}, point(0)))
	}
}

func equalMatrices(a, b [][]api.Interval) bool {
	return slices.EqualFunc(a, b, func(a, b []api.Interval) bool { return slices.Equal(a, b) })
}

func TestMatrix(t *testing.T) {
	half := int64(one / 2)
	zero := point(0)
	for _, y := range []struct {
		s    string
		x    []api.Interval
		time api.Interval
		want [][]api.Interval
	}{
		{"x'=x", []api.Interval{whole(1, 2)}, zero, [][]api.Interval{{point(one)}}},
		{"x'=sqr(x)", []api.Interval{whole(1, 2)}, zero, [][]api.Interval{{whole(2, 4)}}},
		{"x'=t", []api.Interval{whole(1, 2)}, zero, [][]api.Interval{{zero}}},
		{"x'=x*t", []api.Interval{whole(1, 2)}, whole(-3, 5), [][]api.Interval{{whole(-3, 5)}}},
		{"x'=5", []api.Interval{entire}, entire, [][]api.Interval{{zero}}},
		{"x'=v\nv'=-x", []api.Interval{whole(1, 2), whole(3, 4)}, zero, [][]api.Interval{{zero, point(one)}, {point(-one), zero}}},
		{"x'=v*x\nv'=sqr(v)", []api.Interval{whole(1, 2), whole(3, 4)}, zero, [][]api.Interval{{whole(3, 4), whole(1, 2)}, {zero, whole(6, 8)}}},
		{"x'=v*w\nv'=x-w\nw'=t*v", []api.Interval{point(0), whole(1, 2), whole(3, 4)}, point(7 * one), [][]api.Interval{{zero, whole(3, 4), whole(1, 2)}, {point(one), zero, point(-one)}, {zero, point(7 * one), zero}}},
		// Intervals in place of points, and the entire line.
		{"x'=[1,2]*x", []api.Interval{point(0)}, zero, [][]api.Interval{{whole(1, 2)}}},
		{"x'=all*x", []api.Interval{point(0)}, zero, [][]api.Interval{{entire}}},
		{"x'=all+x", []api.Interval{point(0)}, zero, [][]api.Interval{{point(one)}}},
		{"x'=x*v\nv'=x+v", []api.Interval{point(one), entire}, zero, [][]api.Interval{{entire, point(one)}, {point(one), point(one)}}},
		{"x'=x*t\nv'=sqr(v)*0", []api.Interval{entire, entire}, entire, [][]api.Interval{{entire, zero}, {zero, zero}}},
		{"x'=200*sqr(x)", []api.Interval{point(100 * one)}, zero, [][]api.Interval{{entire}}},
		// Square roots of 0, of negative numbers, and of others.
		{"x'=sqrt(x)", []api.Interval{whole(0, 1)}, zero, [][]api.Interval{{entire}}},
		{"x'=sqrt(x)", []api.Interval{point(0)}, zero, [][]api.Interval{{entire}}},
		{"x'=sqrt(x)", []api.Interval{whole(-1, 1)}, zero, [][]api.Interval{{entire}}},
		{"x'=sqrt(x)", []api.Interval{between(-1, 4*one)}, zero, [][]api.Interval{{entire}}},
		{"x'=sqrt(x)", []api.Interval{whole(-2, -1)}, zero, [][]api.Interval{{entire}}},
		{"x'=sqrt(x)", []api.Interval{whole(1, 4)}, zero, [][]api.Interval{{between(half/2, half)}}},
		{"x'=sqrt(v)\nv'=x+sqrt(t)", []api.Interval{point(0), point(4 * one)}, point(-one), [][]api.Interval{{zero, point(half / 2)}, {point(one), zero}}},
		// Divisors that are 0, that contain it, that are negative, and others.
		{"x'=1/x", []api.Interval{whole(-1, 1)}, zero, [][]api.Interval{{entire}}},
		{"x'=1/x", []api.Interval{whole(0, 1)}, zero, [][]api.Interval{{entire}}},
		{"x'=1/x", []api.Interval{point(0)}, zero, [][]api.Interval{{entire}}},
		{"x'=1/x", []api.Interval{whole(-2, -1)}, zero, [][]api.Interval{{between(-one, -one/4)}}},
		{"x'=1/x", []api.Interval{whole(1, 2)}, zero, [][]api.Interval{{between(-one, -one/4)}}},
		{"x'=0/x", []api.Interval{whole(-1, 1)}, zero, [][]api.Interval{{zero}}},
		{"x'=x/v\nv'=x/t", []api.Interval{point(3 * one), point(2 * one)}, point(-2 * one), [][]api.Interval{{point(half), point(-3 * one / 4)}, {point(-half), zero}}},
		{"x'=x/v\nv'=v/x", []api.Interval{whole(1, 2), whole(0, 2)}, zero, [][]api.Interval{{entire, entire}, {between(-2*one, 0), between(one/4, 2*one)}}},
	} {
		if got := Matrix(systemOf(t, y.s), y.x, y.time); !equalMatrices(got, y.want) {
			t.Errorf("Matrix(%q, %v, %v) = %v, want %v", y.s, y.x, y.time, got, y.want)
		}
	}
}

func TestMatrixOfSixVariables(t *testing.T) {
	s := systemOf(t, "a'=a*b\nb'=b*c\nc'=c*d\nd'=d*e\ne'=e*f\nf'=f*a")
	var x []api.Interval
	for i := range int64(6) {
		x = append(x, whole(i+1, 2*i+3))
	}
	m := Matrix(s, x, point(0))
	if len(m) != 6 {
		t.Fatalf("there are %d rows", len(m))
	}
	for i, row := range m {
		want := make([]api.Interval, 6)
		want[i], want[(i+1)%6] = x[(i+1)%6], x[i]
		if !slices.Equal(row, want) {
			t.Errorf("row %d is %v, want %v", i, row, want)
		}
	}
}

func TestLieDerivative(t *testing.T) {
	const oscillator = "x'=v\nv'=-x"
	zero, at := point(0), []api.Interval{point(2 * one), point(3 * one)}
	for _, y := range []struct {
		s, g string
		x    []api.Interval
		time api.Interval
		want api.Interval
	}{
		{oscillator, "x", at, zero, whole(3, 3)}, {oscillator, "v", at, zero, whole(-2, -2)}, {oscillator, "5", at, zero, zero}, {oscillator, "[1,2]", at, zero, zero}, {oscillator, "all", at, zero, zero},
		{oscillator, "sqr(x)+sqr(v)", at, zero, zero}, {oscillator, "x*v", at, zero, whole(5, 5)}, {oscillator, "x-v", at, zero, whole(5, 5)}, {oscillator, "-x", at, zero, whole(-3, -3)},
		{oscillator, "x*v", []api.Interval{whole(1, 2), whole(3, 4)}, zero, whole(5, 15)}, {oscillator, "[1,2]*x", at, zero, whole(3, 6)}, {oscillator, "1/x", at, zero, point(-3 * one / 4)}, {oscillator, "sqrt(x+v-4)", at, zero, point(one / 2)},
		// The time, in the expression and in the system.
		{oscillator, "t", at, zero, whole(1, 1)}, {oscillator, "x+t", at, zero, whole(4, 4)}, {oscillator, "x*t", at, point(4 * one), whole(14, 14)}, {oscillator, "sqr(t)-v", at, whole(4, 5), whole(10, 12)}, {oscillator, "t-t", at, entire, zero},
		{"x'=t", "x", at[:1], whole(4, 5), whole(4, 5)}, {"x'=t", "x*t", at[:1], point(4 * one), whole(18, 18)}, {"x'=t", "3", at[:1], entire, zero}, {"x'=sqr(x)", "sqr(x)", at[:1], zero, whole(16, 16)},
		// Intervals that are the entire line.
		{oscillator, "v", []api.Interval{point(one), entire}, zero, whole(-1, -1)}, {oscillator, "x", []api.Interval{point(one), entire}, zero, entire}, {oscillator, "x", []api.Interval{entire, point(one)}, entire, whole(1, 1)}, {oscillator, "t*x", at, entire, entire}, {oscillator, "all*x", at, zero, entire}, {oscillator, "all+x", at, zero, whole(3, 3)}, {"x'=all\nv'=1", "x+v", at, zero, entire},
		// Derivatives that are zero, by simplification too, and those that only have the value 0.
		{"x'=all\nv'=1", "v", at, zero, whole(1, 1)}, {"x'=1\nv'=1/0", "x+0*v", at, zero, whole(1, 1)}, {"x'=all\nv'=1", "(2-2)*x+v", at, zero, whole(1, 1)}, {"x'=all\nv'=1", "x-x", at, zero, zero}, {"x'=all\nv'=1", "x*v-x*v", at, zero, entire}, {"x'=all\nv'=1", "x*v", []api.Interval{point(one), zero}, zero, entire}, {"x'=all\nv'=1", "sqr(x)", []api.Interval{zero, zero}, zero, entire}, {"x'=3\nv'=1", "x*v-x*v", at, zero, zero},
		{"x'=0\nv'=0", "x*v+t", at, zero, whole(1, 1)}, {"x'=0\nv'=0", "all*x", at, zero, entire}, {"x'=0\nv'=0", "x/v", []api.Interval{point(one), whole(-1, 1)}, zero, entire},
		// The order of the additions: from an unbounded sum nothing comes back.
		{"x'=1\nv'=1\nw'=1", "30000*x-30000*v+30000*w", []api.Interval{zero, zero, zero}, zero, whole(30000, 30000)}, {"x'=1\nv'=1\nw'=1", "30000*x+30000*v-30000*w", []api.Interval{zero, zero, zero}, zero, entire}, {"x'=1\nv'=1\nw'=1", "30000*w-30000*v+30000*x", []api.Interval{zero, zero, zero}, zero, whole(30000, 30000)}, {"x'=1\nv'=1\nw'=1", "30000*w-30000*x+30000*v", []api.Interval{zero, zero, zero}, zero, whole(30000, 30000)}, {"x'=1\nv'=1\nw'=1", "30000*w+30000*v-30000*x", []api.Interval{zero, zero, zero}, zero, whole(30000, 30000)},
		{"x'=1\nv'=1", "30000*x-30000*v+30000*t", at, zero, entire}, {"x'=1\nv'=1", "30000*v-30000*x+30000*t", at, zero, whole(30000, 30000)},
	} {
		if got := LieDerivative(systemOf(t, y.s), parse(t, y.g), y.x, y.time); got != y.want {
			t.Errorf("LieDerivative(%q, %q, %v, %v) = %v, want %v", y.s, y.g, y.x, y.time, got, y.want)
		}
	}
}

func TestLieDerivativeOfSixVariables(t *testing.T) {
	s := systemOf(t, "a'=1\nb'=2\nc'=3\nd'=4\ne'=5\nf'=t")
	x := slices.Repeat([]api.Interval{point(2 * one)}, 6)
	var sum []api.Node = now()
	for i, want := range []int64{2, 4, 7, 11, 16, 23} {
		if got := LieDerivative(s, variable(i), x, point(7*one)); got != ode.Derivatives(s, x, point(7*one))[i] {
			t.Errorf("the rate of variable %d is %v", i, got)
		}
		sum = join(api.Add, sum, variable(i))
		if got := LieDerivative(s, sum, x, point(7*one)); got != whole(want, want) {
			t.Errorf("the rate of the sum up to variable %d is %v, want %d", i, got, want)
		}
	}
}

// TestExamples is about the examples of the chapter.
func TestExamples(t *testing.T) {
	for _, y := range []struct{ e, want string }{{"x * x", "(x + x)"}, {"sqr(x)", "(2 * x)"}, {"1 / x", "([-1, -1] / sqr(x))"}, {"v + 3", "0"}} {
		if got := text(Diff(parse(t, y.e), 0)); got != y.want {
			t.Errorf("Diff(%q, 0) = %q, want %q", y.e, got, y.want)
		}
	}
}

// oddExpressions returns expressions that are not valid.
func oddExpressions() [][]api.Node {
	return [][]api.Node{
		nil, {}, {{}}, {{Op: 11}}, {{Op: -1}}, {{Op: math.MaxInt}}, {{Op: api.Neg}}, {{Op: api.Sqr}}, {{Op: api.Sqrt}}, {{Op: api.Add}, {Op: api.Time}}, {{Op: api.Div}}, {{Op: api.Time}, {Op: api.Time}}, variable(7), variable(-1), variable(math.MinInt), num(between(1, 0)), num(between(math.MinInt64, math.MaxInt64)), num(point(math.MinInt64)), num(between(-api.Max, 0)),
		{{Op: api.Time, N: 3}}, {{Op: api.Var, C: point(1)}}, join(api.Neg, join(api.Neg)), join(api.Sub, constant(0)), join(api.Mul, constant(one)), join(api.Sub, constant(0), join(api.Neg)), join(api.Mul, constant(math.MaxInt64), constant(math.MinInt64)), join(api.Add, constant(math.MaxInt64), constant(1)), join(api.Neg, constant(math.MinInt64)), join(api.Mul, constant(api.Max), constant(api.Max)),
		power(variable(0), 150), power(variable(0), 150)[:200], slices.Repeat(join(api.Sqr), 1000), slices.Repeat(join(api.Div), 500), slices.Repeat(join(math.MaxInt), 9),
	}
}

// TestNothingPanics calls all functions with all kinds of arguments, those for
// which nothing else is specified among them.
func TestNothingPanics(t *testing.T) {
	boxes := [][]api.Interval{nil, {entire}, {entire, between(1, 0), point(api.Max)}, {between(math.MinInt64, math.MaxInt64), between(math.MaxInt64, math.MinInt64)}}
	moments := []api.Interval{entire, between(1, 0), point(math.MinInt64)}
	for _, e := range append(oddExpressions(), now(), variable(0), power(variable(1), 100)) {
		Simplify(e)
		TimeDerivative(e)
		for _, i := range []int{0, 1, -1, 7, math.MinInt, math.MaxInt} {
			Diff(e, i)
		}
		if len(e) >= 1000 {
			continue
		}
		for _, s := range []api.System{{}, {Names: names}, {F: [][]api.Node{e}}, {Names: names, F: [][]api.Node{e, e}}, {Names: names[:2], F: [][]api.Node{now(), e}}, {Names: names[:1], F: slices.Repeat([][]api.Node{variable(0)}, 9)}} {
			for i, x := range boxes {
				Matrix(s, x, moments[i%3])
				LieDerivative(s, e, x, moments[i%3])
			}
		}
	}
}

// TestResultsDependOnArgumentsOnly calls the functions again after other calls: P2 of the document.
func TestResultsDependOnArgumentsOnly(t *testing.T) {
	s, g := systemOf(t, "x'=v/w+1\nv'=-x*sqr(t)\nw'=sqrt(x)-v"), parse(t, "x*v/(w+t)")
	x := []api.Interval{whole(1, 2), point(5), whole(7, 9)}
	call := func() ([][]api.Node, [][]api.Interval, api.Interval) {
		return [][]api.Node{Simplify(g), Diff(g, 1), TimeDerivative(g)}, Matrix(s, x, point(one)), LieDerivative(s, g, x, point(one))
	}
	l, m, rate := call()
	for _, e := range oddExpressions()[:20] {
		Diff(e, 0)
		LieDerivative(s, e, x[:1], entire)
	}
	TimeDerivative(power(now(), 50))
	l2, m2, rate2 := call()
	if !slices.EqualFunc(l, l2, func(a, b []api.Node) bool { return slices.Equal(a, b) }) || !equalMatrices(m, m2) || rate != rate2 {
		t.Errorf("first %v, %v, %v, then %v, %v, %v", l, m, rate, l2, m2, rate2)
	}
}

// TestArgumentsStay overwrites the results, with all the room behind them: neither
// the arguments nor the other results may change, by this or by the calls.
func TestArgumentsStay(t *testing.T) {
	overwrite := func(e []api.Node) {
		e = e[:cap(e)]
		for i := range e {
			e[i] = api.Node{Op: 99, N: 99}
		}
	}
	for _, s := range []string{"x", "t", "3", "--x", "0+x*v", "x*1", "0--(x/v)", "sqr(x)*v", "x*(v*w)", "x/(v+0)", "-(0-sqrt(x*v))", "1*(x*v)", "t*(x*v)", "2+3", "(x+v)*x"} {
		e := append(parse(t, s), join(api.Neg)...)[:len(parse(t, s))]
		before := slices.Clone(e[:cap(e)])
		results := [][]api.Node{Simplify(e), Diff(e, 0), Diff(e, 1), TimeDerivative(e), Simplify(e), Diff(e, 0)}
		after := slices.Clone(results[4:])
		for i := range after {
			after[i] = slices.Clone(after[i])
		}
		for _, l := range results[:4] {
			overwrite(l)
		}
		if !slices.Equal(e[:cap(e)], before) || !slices.Equal(results[4], after[0]) || !slices.Equal(results[5], after[1]) {
			t.Errorf("%q is %v, simplified %v, and its derivative %v", s, e, results[4], results[5])
		}
	}
	s, x := systemOf(t, "x'=v\nv'=x*v"), []api.Interval{whole(1, 2), whole(3, 4)}
	g, frame := parse(t, "x*t"), slices.Clone(x)
	m := Matrix(s, x, point(0))
	second := slices.Clone(m[1])
	m[0] = m[0][:cap(m[0])]
	for i := range m[0] {
		m[0][i] = entire
	}
	LieDerivative(s, g, x, point(0))
	if !slices.Equal(m[1], second) || !slices.Equal(x, frame) || ode.Format(s) != "x' = v\nv' = (x * v)\n" || text(g) != "(x * t)" {
		t.Errorf("the second row is %v, the arguments are %v, %v, %v", m[1], ode.Format(s), text(g), x)
	}
}

// TestImports checks that the package imports no other layers than interval and ode.
func TestImports(t *testing.T) {
	files, err := filepath.Glob("*.go")
	if err != nil || len(files) == 0 {
		t.Fatal("no files", err)
	}
	allowed := []string{`"armillary/api"`, `"armillary/interval"`, `"armillary/ode"`}
	for _, name := range files {
		if strings.HasSuffix(name, "_test.go") {
			continue
		}
		file, err := goparser.ParseFile(gotoken.NewFileSet(), name, nil, goparser.ImportsOnly)
		if err != nil {
			t.Fatal(err)
		}
		for _, spec := range file.Imports {
			if path := spec.Path.Value; strings.HasPrefix(path, `"armillary`) && !slices.Contains(allowed, path) {
				t.Errorf("%s imports %s", name, path)
			}
		}
	}
}
