package ode

import (
	goparser "go/parser"
	gotoken "go/token"
	"math"
	"path/filepath"
	"slices"
	"strings"
	"testing"

	"armillary/api"
)

// Tests of P7.1: the functions return what G1 to G4 say.

const (
	one     = api.One
	largest = api.Max - 1
)

var entire = api.Interval{Lo: -api.Max, Hi: api.Max}

func between(lo, hi int64) api.Interval { return api.Interval{Lo: lo, Hi: hi} }

func point(x int64) api.Interval { return between(x, x) }

// num, variable, now and join return expressions.
func num(lo, hi int64) []api.Node { return []api.Node{{Op: api.Num, C: between(lo, hi)}} }

func constant(x int64) []api.Node { return num(x, x) }

func variable(i int) []api.Node { return []api.Node{{Op: api.Var, N: i}} }

func now() []api.Node { return []api.Node{{Op: api.Time}} }

func join(op int, operands ...[]api.Node) []api.Node {
	return append([]api.Node{{Op: op}}, slices.Concat(operands...)...)
}

// long returns an expression of the given number of nodes, which are operations
// on two operands where possible.
func long(nodes int) []api.Node {
	if nodes < 3 {
		return join(api.Neg, now())[2-nodes:]
	}
	return join(api.Add, long(nodes-2), now())
}

// deep returns an expression of the given number of nodes with one operand each.
func deep(nodes int) []api.Node {
	return append(slices.Repeat([]api.Node{{Op: api.Sqr}}, nodes-1), variable(0)...)
}

func equalSystems(a, b api.System) bool {
	return slices.Equal(a.Names, b.Names) && slices.EqualFunc(a.F, b.F, func(e, f []api.Node) bool { return slices.Equal(e, f) })
}

func empty(s api.System) bool { return len(s.Names) == 0 && len(s.F) == 0 }

var letters = []string{"a", "b", "c", "d", "e", "f", "g", "h"}

// simple returns a system of the given number of equations.
func simple(n int) api.System {
	return api.System{Names: letters[:n], F: slices.Repeat([][]api.Node{now()}, n)}
}

var operations = []struct{ op, operands int }{
	{api.Num, 0}, {api.Var, 0}, {api.Time, 0}, {api.Neg, 1}, {api.Sqr, 1}, {api.Sqrt, 1}, {api.Add, 2}, {api.Sub, 2}, {api.Mul, 2}, {api.Div, 2},
}

func TestValidExprCountsOperands(t *testing.T) {
	for _, x := range operations {
		for n := range 4 {
			e := join(x.op, slices.Repeat([][]api.Node{now()}, n)...)
			if ValidExpr(e, 1) != (n == x.operands) {
				t.Errorf("ValidExpr(%v, 1) = %v", e, n != x.operands)
			}
			// The same below another node.
			if e = join(api.Mul, variable(0), e); ValidExpr(e, 1) != (n == x.operands) {
				t.Errorf("ValidExpr(%v, 1) = %v", e, n != x.operands)
			}
		}
	}
	for _, op := range []int{0, -1, 11, 12, 256 + api.Num, math.MaxInt, math.MinInt} {
		for n := range 3 {
			if e := join(op, slices.Repeat([][]api.Node{now()}, n)...); ValidExpr(e, 1) {
				t.Errorf("ValidExpr(%v, 1) = true", e)
			}
		}
		if e := join(api.Neg, []api.Node{{Op: op}}); ValidExpr(e, 1) {
			t.Errorf("ValidExpr(%v, 1) = true", e)
		}
	}
}

func TestValidExprChecksFields(t *testing.T) {
	for _, x := range operations {
		rest := slices.Repeat(now(), x.operands)
		for _, y := range []struct {
			n     int
			c     api.Interval
			valid bool
		}{
			{0, api.Interval{}, true},
			{1, api.Interval{}, x.op == api.Var},
			{2, api.Interval{}, x.op == api.Var},
			{3, api.Interval{}, false},
			{-1, api.Interval{}, false},
			{math.MaxInt, api.Interval{}, false},
			{math.MinInt, api.Interval{}, false},
			{0, point(1), x.op == api.Num},
			{0, between(-1, 0), x.op == api.Num},
			{0, between(0, 1), x.op == api.Num},
			{0, between(-largest, largest), x.op == api.Num},
			{0, entire, x.op == api.Num},
			{1, point(1), false},
			{1, entire, false},
			{0, between(1, 0), false},
			{0, between(-api.Max, 0), false},
			{0, between(0, api.Max), false},
			{0, point(api.Max), false},
			{0, point(-api.Max), false},
			{0, between(api.Max, -api.Max), false},
			{0, between(-api.Max-1, api.Max+1), false},
			{0, between(math.MinInt64, math.MaxInt64), false},
		} {
			node := api.Node{Op: x.op, N: y.n, C: y.c}
			if e := append([]api.Node{node}, rest...); ValidExpr(e, 3) != y.valid {
				t.Errorf("ValidExpr(%v, 3) = %v", e, !y.valid)
			}
			if e := append(join(api.Sub, now(), []api.Node{node}), rest...); ValidExpr(e, 3) != y.valid {
				t.Errorf("ValidExpr(%v, 3) = %v", e, !y.valid)
			}
		}
	}
}

func TestValidExpr(t *testing.T) {
	for _, x := range []struct {
		e    []api.Node
		n    int
		want bool
	}{
		{nil, 1, false},
		{[]api.Node{}, 0, false},
		{now(), 0, true},
		{constant(0), 0, true},
		{variable(0), 0, false},
		{variable(0), 1, true},
		{variable(1), 1, false},
		{variable(5), 6, true},
		{variable(6), 6, false},
		{variable(-1), 6, false},
		{long(1), 0, true},
		{long(2), 0, true},
		{long(199), 0, true},
		{long(200), 0, true},
		{long(201), 0, false},
		{long(202), 0, false},
		{deep(200), 1, true},
		{deep(201), 1, false},
		{long(200)[1:], 0, false},
		{long(200)[:199], 0, false},
		{slices.Repeat([]api.Node{{Op: api.Add}}, 100), 1, false},
		{slices.Concat(now(), now()), 1, false},
		{slices.Concat(now(), join(api.Neg, now())), 1, false},
		// Nodes behind a whole expression that would be missing in another one.
		{slices.Concat(now(), join(api.Neg)), 1, false},
		{slices.Concat(now(), join(api.Add, now())), 1, false},
		{slices.Concat(now(), join(api.Neg), join(api.Sub, now())), 1, false},
		{slices.Concat(join(api.Add, now(), now()), now()), 1, false},
	} {
		if ValidExpr(x.e, x.n) != x.want {
			t.Errorf("ValidExpr(%v, %d) = %v", x.e, x.n, !x.want)
		}
	}
}

func TestValidNames(t *testing.T) {
	for _, x := range []struct {
		name string
		want bool
	}{
		{"x", true}, {"a", true}, {"z", true}, {"x0", true}, {"x9", true}, {"xyz", true}, {"a1b2", true},
		{"abcdefghijkl", true}, {"a12345678901", true}, {"abcdefghijklm", false}, {"abcdefghijklmnopqrstuvwxyz", false},
		{"", false}, {"0", false}, {"9x", false}, {"X", false}, {"xY", false}, {"x_y", false}, {"_x", false}, {"x'", false}, {"x y", false}, {" x", false}, {"x ", false},
		{"x\n", false}, {"x-", false}, {"x.1", false}, {"`", false}, {"{", false}, {"x/", false}, {"x:", false}, {"x`", false}, {"x{", false}, {"é", false}, {"xé", false}, {"x\x00", false}, {"x\xff", false}, {"x\u0663", false},
		{"t", false}, {"sqr", false}, {"sqrt", false}, {"all", false},
		{"t0", true}, {"tt", true}, {"sq", true}, {"sqr2", true}, {"sqrtt", true}, {"al", true}, {"alls", true}, {"time", true}, {"neg", true}, {"name", true}, {"number", true}, {"end", true},
	} {
		if s := (api.System{Names: []string{x.name}, F: [][]api.Node{now()}}); Valid(s) != x.want {
			t.Errorf("Valid(%v) = %v", s, !x.want)
		}
		if s := (api.System{Names: []string{"v", x.name}, F: [][]api.Node{now(), now()}}); Valid(s) != x.want {
			t.Errorf("Valid(%v) = %v", s, !x.want)
		}
	}
}

func TestValid(t *testing.T) {
	for n := range 9 {
		if Valid(simple(min(n, 8))) != (n >= 1 && n <= 6) {
			t.Errorf("Valid is wrong for %d equations", n)
		}
	}
	x, v := []string{"x"}, []string{"x", "v"}
	for _, y := range []struct {
		s    api.System
		want bool
	}{
		{api.System{}, false},
		{api.System{Names: x}, false},
		{api.System{F: [][]api.Node{now()}}, false},
		{api.System{Names: x, F: [][]api.Node{now(), now()}}, false},
		{api.System{Names: v, F: [][]api.Node{now()}}, false},
		{api.System{Names: v, F: [][]api.Node{variable(1), variable(0)}}, true},
		{api.System{Names: v, F: [][]api.Node{variable(2), variable(0)}}, false},
		{api.System{Names: v, F: [][]api.Node{variable(0), variable(2)}}, false},
		{api.System{Names: v, F: [][]api.Node{now(), nil}}, false},
		{api.System{Names: x, F: [][]api.Node{variable(0)}}, true},
		{api.System{Names: x, F: [][]api.Node{variable(1)}}, false},
		{api.System{Names: x, F: [][]api.Node{long(200)}}, true},
		{api.System{Names: x, F: [][]api.Node{long(201)}}, false},
		{api.System{Names: v, F: [][]api.Node{long(200), deep(200)}}, true},
		{api.System{Names: v, F: [][]api.Node{long(200), deep(201)}}, false},
		{api.System{Names: x, F: [][]api.Node{num(2, 1)}}, false},
		{api.System{Names: []string{"x", "x"}, F: [][]api.Node{now(), now()}}, false},
		{api.System{Names: []string{"x", "v", "w", "v"}, F: slices.Repeat([][]api.Node{now()}, 4)}, false},
		{api.System{Names: []string{"x", "v", "w", "x"}, F: slices.Repeat([][]api.Node{now()}, 4)}, false},
		{api.System{Names: []string{"x", "v", "w", "xv"}, F: slices.Repeat([][]api.Node{now()}, 4)}, true},
	} {
		if Valid(y.s) != y.want {
			t.Errorf("Valid(%v) = %v", y.s, !y.want)
		}
	}
}

func TestOperands(t *testing.T) {
	a, b := join(api.Div, join(api.Neg, now()), num(1, 2)), join(api.Sqr, join(api.Mul, variable(3), now()))
	for _, x := range operations {
		for _, l := range [][][]api.Node{{a, b}, {b, a}, {now(), b}, {a, now()}, {now(), now()}, {deep(99), long(100)}} {
			l = l[:x.operands]
			e := join(x.op, l...)
			if got := Operands(e); !slices.EqualFunc(got, l, func(e, f []api.Node) bool { return slices.Equal(e, f) }) {
				t.Errorf("Operands(%v) = %v, want %v", e, got, l)
			}
		}
	}
}

func TestEval(t *testing.T) {
	box := []api.Interval{between(-one, 2*one), point(3 * one), between(one, 4*one), entire, point(-7), between(0, largest)}
	time := between(one/2, one)
	x, three, far, any, v, w := variable(0), variable(1), variable(2), variable(3), variable(4), variable(5)
	for _, y := range []struct {
		e    []api.Node
		want api.Interval
	}{
		{num(-5, 8), between(-5, 8)},
		{constant(0), point(0)},
		{num(-api.Max, api.Max), entire},
		{x, between(-one, 2*one)},
		{any, entire},
		{w, between(0, largest)},
		{now(), between(one/2, one)},
		{join(api.Neg, x), between(-2*one, one)},
		{join(api.Neg, any), entire},
		{join(api.Sqr, x), between(0, 4*one)},
		{join(api.Sqr, w), entire},
		{join(api.Sqr, v), between(0, 1)},
		{join(api.Sqrt, far), between(one, 2*one)},
		{join(api.Sqrt, constant(2)), between(362, 363)},
		{join(api.Sqrt, constant(0)), point(0)},
		{join(api.Sqrt, num(0, 4*one)), between(0, 2*one)},
		// A lower endpoint that is negative.
		{join(api.Sqrt, num(-1, 4*one)), entire},
		{join(api.Sqrt, x), entire},
		{join(api.Sqrt, v), entire},
		{join(api.Sqrt, constant(-4*one)), entire},
		{join(api.Sqrt, any), entire},
		{join(api.Sqr, join(api.Sqrt, x)), entire},
		{join(api.Add, x, far), between(0, 6*one)},
		{join(api.Sub, x, far), between(-5*one, one)},
		{join(api.Sub, far, x), between(-one, 5*one)},
		{join(api.Sub, x, x), between(-3*one, 3*one)},
		{join(api.Mul, x, far), between(-4*one, 8*one)},
		{join(api.Mul, x, x), between(-2*one, 4*one)},
		{join(api.Mul, x, three), between(-3*one, 6*one)},
		{join(api.Mul, v, now()), between(-7, -3)},
		{join(api.Div, x, far), between(-one, 2*one)},
		{join(api.Div, far, three), between(21845, 87382)},
		{join(api.Div, three, far), between(3*one/4, 3*one)},
		{join(api.Div, far, x), entire},
		{join(api.Div, three, constant(0)), entire},
		{join(api.Div, constant(0), any), entire},
		{join(api.Mul, constant(0), any), entire},
		{join(api.Add, constant(0), any), entire},
		{join(api.Sub, any, any), entire},
		{join(api.Add, constant(largest), constant(1)), entire},
		{join(api.Sub, join(api.Add, constant(largest), constant(1)), constant(one)), entire},
		// Operands that are operations, and in their order.
		{join(api.Sub, join(api.Mul, three, far), join(api.Div, far, three)), between(3*one-87382, 12*one-21845)},
		{join(api.Div, join(api.Sub, three, far), join(api.Neg, join(api.Sqr, far))), between(-2*one, one)},
		{join(api.Sub, join(api.Sub, three, constant(one)), constant(5)), point(2*one - 5)},
		{join(api.Sub, three, join(api.Sub, constant(one), constant(5))), point(2*one + 5)},
		{long(199), between(50*one, 100*one)},
	} {
		if got := Eval(y.e, box, time); got != y.want {
			t.Errorf("Eval(%v) = %v, want %v", y.e, got, y.want)
		}
	}
	if got := Eval(join(api.Add, constant(3), now()), nil, point(-9)); got != point(-6) {
		t.Errorf("without state variables, Eval gives %v", got)
	}
	if got := Eval(now(), nil, entire); got != entire {
		t.Errorf("at any time, Eval gives %v", got)
	}
}

// TestEvalOfLongExpressions is about expressions that are too long to be valid, as
// derivatives can be: the same rules apply to them (layer 10).
func TestEvalOfLongExpressions(t *testing.T) {
	time := between(one, 2*one)
	for _, nodes := range []int{201, 203, 999, 4001} {
		terms := int64(nodes+1) / 2
		if got, want := Eval(long(nodes), nil, time), between(terms*one, 2*terms*one); got != want {
			t.Errorf("Eval = %v for %d nodes, want %v", got, nodes, want)
		}
		e := join(api.Div, join(api.Neg, variable(0)), deep(nodes))
		if got := Eval(e, []api.Interval{between(one, one)}, time); got != point(-one) {
			t.Errorf("Eval = %v for %d nodes, want -1", got, len(e))
		}
	}
	if got := Eval(join(api.Sqrt, deep(300)), []api.Interval{point(0)}, entire); got != point(0) {
		t.Errorf("Eval gives %v for a square root", got)
	}
}

func TestDerivatives(t *testing.T) {
	s := api.System{Names: []string{"x", "v", "w"}, F: [][]api.Node{variable(1), join(api.Neg, variable(0)), join(api.Mul, now(), variable(2))}}
	box := []api.Interval{between(one, 2*one), between(-one, 3*one), point(one / 2)}
	for _, x := range []struct{ t, last api.Interval }{{point(0), point(0)}, {between(-one, 4*one), between(-one/2, 2*one)}, {entire, entire}} {
		want := []api.Interval{between(-one, 3*one), between(-2*one, -one), x.last}
		if got := Derivatives(s, box, x.t); !slices.Equal(got, want) {
			t.Errorf("Derivatives = %v, want %v", got, want)
		}
	}
	six := Derivatives(simple(6), make([]api.Interval, 6), point(5))
	if !slices.Equal(six, slices.Repeat([]api.Interval{point(5)}, 6)) {
		t.Errorf("Derivatives = %v", six)
	}
}

// names are those of the state variables of the expressions in the tests of ParseExpr.
var names = []string{"x", "v", "abcdefghijkl"}

func TestParseExpr(t *testing.T) {
	x, v, w := variable(0), variable(1), variable(2)
	for _, y := range []struct {
		s    string
		want []api.Node
	}{
		{"x", x}, {"v", v}, {"abcdefghijkl", w}, {"t", now()}, {"all", num(-api.Max, api.Max)},
		{"0", constant(0)}, {"1", constant(one)}, {"007", constant(7 * one)}, {"1.5", constant(one * 3 / 2)}, {"2.50", constant(one * 5 / 2)},
		{"0.1", num(6553, 6554)}, {"0.00001", num(0, 1)}, {"32767.9999847412109375", constant(largest)}, {"32767.9999847412109374", num(largest-1, largest)},
		{"[1,2]", num(one, 2*one)}, {"[1, 1]", constant(one)}, {"[-2, -1]", num(-2*one, -one)}, {"[-1,1]", num(-one, one)}, {"[-0, 0]", constant(0)}, {"[- 1 , - 0.5]", num(-one, -one/2)},
		{"[0.1, 0.2]", num(6553, 13108)}, {"[-0.2, -0.1]", num(-13108, -6553)}, {"[-0.1,0.1]", num(-6554, 6554)}, {"[0.1,0.1]", num(6553, 6554)},
		// The first number is greater than the second one, but not when rounded.
		{"[0.1, 0.09999]", num(6553, 6553)}, {"[0.10000001, 0.1]", num(6553, 6554)}, {"[-0.09999, -0.1]", num(-6553, -6553)}, {"[0, -0.00001]", constant(0)},
		{"[-32767.9999847412109375, 32767.9999847412109375]", num(-largest, largest)},
		{"-x", join(api.Neg, x)}, {"--x", join(api.Neg, join(api.Neg, x))}, {"-1", join(api.Neg, constant(one))}, {"-[1,2]", join(api.Neg, num(one, 2*one))}, {"-all", join(api.Neg, num(-api.Max, api.Max))},
		{"(x)", x}, {"((x))", x}, {"(-x)", join(api.Neg, x)}, {"-(x)", join(api.Neg, x)},
		{"sqr(x)", join(api.Sqr, x)}, {"sqrt(x)", join(api.Sqrt, x)}, {"sqr(sqrt(t))", join(api.Sqr, join(api.Sqrt, now()))}, {"-sqr(-x)", join(api.Neg, join(api.Sqr, join(api.Neg, x)))}, {"sqr((x))", join(api.Sqr, x)},
		{"x+v", join(api.Add, x, v)}, {"x-v", join(api.Sub, x, v)}, {"x*v", join(api.Mul, x, v)}, {"x/v", join(api.Div, x, v)},
		{"x--v", join(api.Sub, x, join(api.Neg, v))}, {"x*-v", join(api.Mul, x, join(api.Neg, v))}, {"x+-v", join(api.Add, x, join(api.Neg, v))}, {"x/-v", join(api.Div, x, join(api.Neg, v))},
		{"sqr(x+v)", join(api.Sqr, join(api.Add, x, v))}, {"sqr(x)+v", join(api.Add, join(api.Sqr, x), v)}, {"x*(v+t)", join(api.Mul, x, join(api.Add, v, now()))},
		{"2*sqrt(x)/t", join(api.Div, join(api.Mul, constant(2*one), join(api.Sqrt, x)), now())},
		// Spaces where they are not needed, and none where they are not.
		{" x ", x}, {"\t x\r", x}, {"( \tx\r)", x}, {"sqr \t( x )", join(api.Sqr, x)}, {"  -\t\r 1.5 ", join(api.Neg, constant(one*3/2))}, {"x\r+\tv", join(api.Add, x, v)},
		{"[\t- 1\r,2 ]", num(-one, 2*one)}, {"[ 1 , 2 ]", num(one, 2*one)},
	} {
		e, offset, err := ParseExpr(y.s, names)
		if !slices.Equal(e, y.want) || offset != 0 || err != api.OK {
			t.Errorf("ParseExpr(%q) = %v, %d, %d, want %v", y.s, e, offset, err, y.want)
		}
	}
}

func TestParse(t *testing.T) {
	x, v := variable(0), variable(1)
	circle := api.System{Names: []string{"x", "v"}, F: [][]api.Node{v, join(api.Neg, x)}}
	for _, y := range []struct {
		s    string
		want api.System
	}{
		{"x'=v\nv'=-x", circle},
		{"x' = v\nv' = -x\n", circle},
		{"\n\n \n\t\nx' = v\n\n\r\n \nv' = -x\n\n \n\t", circle},
		{"\r\nx'\t=\rv\r\nv' = -\tx\r\n\r\n", circle},
		{"  x  '  =  v  \n  v  '  =  -  x  ", circle},
		{"v' = -x\nx' = v", api.System{Names: []string{"v", "x"}, F: [][]api.Node{join(api.Neg, v), x}}},
		{"x'=t", api.System{Names: []string{"x"}, F: [][]api.Node{now()}}},
		{"abcdefghijkl'=abcdefghijkl*0.1", api.System{Names: []string{"abcdefghijkl"}, F: [][]api.Node{join(api.Mul, x, num(6553, 6554))}}},
		// Keywords with something behind them, and words used for tokens in this program.
		{"t1'=sqr2\nsqr2'=sqrtt\nsqrtt'=alls\nalls'=t1", api.System{Names: []string{"t1", "sqr2", "sqrtt", "alls"}, F: [][]api.Node{variable(1), variable(2), variable(3), variable(0)}}},
		{"name'=number\nnumber'=end\nend'=name", api.System{Names: []string{"name", "number", "end"}, F: [][]api.Node{variable(1), variable(2), variable(0)}}},
		{"a'=f\nb'=e\nc'=d\nd'=c\ne'=b\nf'=a", api.System{Names: letters[:6], F: [][]api.Node{variable(5), variable(4), variable(3), variable(2), variable(1), variable(0)}}},
	} {
		s, offset, err := Parse(y.s)
		if !equalSystems(s, y.want) || offset != 0 || err != api.OK {
			t.Errorf("Parse(%q) = %v, %d, %d, want %v", y.s, s, offset, err, y.want)
		}
	}
}

// failing are sums that have a syntax error, with the offset of the error.
var failing = []struct {
	s      string
	offset int
}{
	// A byte that starts no token.
	{"X", 0}, {"x X", 2}, {"x+X", 2}, {"x_", 1}, {"x.y", 1}, {".5", 0}, {"1.", 1}, {"1.x", 1}, {"1. 5", 1}, {"1..5", 1}, {"1.2.3", 3}, {"x + %", 4}, {"x^2", 1}, {"{x}", 0}, {"x;", 1}, {"x:", 1}, {"x/\\", 2}, {"x\x00", 1}, {"\x00", 0},
	{"é", 0}, {"xé", 1}, {"x\xff", 1}, {"\u0663", 0}, {"1\u0663", 1}, {"x\u00a0", 1}, {"x\v", 1}, {"x\f+1", 1}, {"\ufeffx", 0}, {"[1,X]", 3}, {"sqrX", 3}, {"(x`)", 2}, {"x{", 1}, {"x@", 1}, {"1_0", 1},
	// A token that is not allowed at its place, although the text before is not complete.
	{")", 0}, {"]", 0}, {",", 0}, {"=", 0}, {"'", 0}, {"+", 0}, {"*", 0}, {"/", 0}, {"+x", 0}, {"x+", -1}, {"x++x", 2}, {"x**x", 2}, {"x-/x", 2}, {"x*+x", 2}, {"-*x", 1}, {"()", 1}, {"(x]", 2}, {"(x,x)", 2}, {"[x,1]", 1}, {"[t,1]", 1}, {"[all,1]", 1}, {"[(1),1]", 1}, {"[--1,1]", 2}, {"[+1,1]", 1}, {"[1,-x]", 4}, {"[1,-(1)]", 4}, {"[1;2]", 2}, {"[1 2]", 3}, {"[1,2)", 4}, {"[1]", 2}, {"[1,]", 3}, {"[,1]", 1}, {"[]", 1}, {"[-,1]", 2}, {"[1-,2]", 2}, {"[1+1,2]", 2}, {"[1,2,3]", 4}, {"[[1,2],3]", 1},
	{"sqr x", 4}, {"sqr 1", 4}, {"sqrt-x", 4}, {"sqr()", 4}, {"sqr(x,x)", 5}, {"sqr[x]", 3}, {"sqrt sqr(x)", 5}, {"sqr t", 4}, {"sqrt)", 4}, {"(sqr)", 4}, {"sqr+x", 3},
	// A token behind the sum.
	{"x x", 2}, {"x t", 2}, {"x all", 2}, {"x sqr(x)", 2}, {"x 1", 2}, {"1 1", 2}, {"1x", 1}, {"1t", 1}, {"x(x)", 1}, {"t(x)", 1}, {"all(x)", 3}, {"x[1,2]", 1}, {"x)", 1}, {"(x))", 3}, {"x]", 1}, {"x,x", 1}, {"x'", 1}, {"x=x", 1}, {"[1,2]3", 5}, {"(x)x", 3}, {"sqr(x)(x)", 6},
	// The end of the text, in place of which the offset is -1.
	{"", -1}, {" ", -1}, {"\t\r  ", -1}, {"-", -1}, {"x-", -1}, {"x *", -1}, {"x/ ", -1}, {"(", -1}, {"(x", -1}, {"(x+", -1}, {"((x)", -1}, {"sqr", -1}, {"sqrt ", -1}, {"sqr(", -1}, {"sqr(x", -1}, {"sqr(x+1 \t", -1}, {"[", -1}, {"[1", -1}, {"[-", -1}, {"[-1", -1}, {"[1,", -1}, {"[1, -", -1}, {"[1,2", -1}, {"[1,2 ", -1}, {"--", -1}, {"-(", -1},
	// Two errors: that on the left counts.
	{"x x X", 2}, {"x X x x", 2}, {") X", 0}, {"X )", 0}, {"(x X", 3}, {"sqr x X", 4}, {"[x X", 1}, {"1 1.", 2}, {"(]", 1},
}

// checkFailure checks the results for a text of a system that has an error.
func checkFailure(t *testing.T, text string, offset int, code api.Errno) {
	t.Helper()
	if s, at, err := Parse(text); at != offset || err != code || !empty(s) {
		t.Errorf("Parse(%.60q) = %v, %d, %d, want nothing, %d, %d", text, s, at, err, offset, code)
	}
}

// checkExprFailure is the same for the text of an expression.
func checkExprFailure(t *testing.T, text string, offset int, code api.Errno) {
	t.Helper()
	if e, at, err := ParseExpr(text, names); at != offset || err != code || len(e) != 0 {
		t.Errorf("ParseExpr(%.60q) = %v, %d, %d, want nothing, %d, %d", text, e, at, err, offset, code)
	}
}

// TestSyntaxErrorsInSums has the sums alone, at the end of a system, and before
// another line, where all that could follow at the end is not allowed at its newline.
func TestSyntaxErrorsInSums(t *testing.T) {
	for _, x := range failing {
		const before, after = "v' = 1\nx' = ", "\nw' = 1"
		at, code := x.offset, api.ErrToken
		if at < 0 {
			at, code = len(x.s), api.ErrEnd
		}
		checkExprFailure(t, x.s, at, code)
		checkFailure(t, before+x.s, len(before)+at, code)
		checkFailure(t, before+x.s+after, len(before)+at, api.ErrToken)
	}
}

func TestSyntaxErrorsInLines(t *testing.T) {
	for _, x := range []struct {
		s      string
		offset int
	}{
		{"", -1}, {" ", -1}, {"\n", -1}, {" \n\t\n\r ", -1}, {"x", -1}, {"x ", -1}, {"x'", -1}, {"x' ", -1}, {"x'=", -1}, {"x' = ", -1}, {"x'=1\nv", -1}, {"x'=1\nv'", -1}, {"x'=1\nv'=", -1}, {"x'=1\nv'=(", -1},
		{"1", 0}, {"1'=1", 0}, {"'", 0}, {"=", 0}, {"-", 0}, {"(x)'=1", 0}, {"[", 0}, {",", 0}, {"X", 0}, {".", 0}, {"\v", 0}, {" \n X'=1", 3},
		{"x=1", 1}, {"x+", 1}, {"x 1", 2}, {"x x", 2}, {"x t'=1", 2}, {"x(", 1}, {"x''=1", 2}, {"x'1", 2}, {"x' x", 3}, {"x'==1", 3}, {"x'=1=1", 4}, {"x'=x'=1", 4}, {"x'=1,v'=1", 4}, {"x'=1;v'=1", 4}, {"x'=1 v'=1", 5}, {"x_'=1", 1}, {"x\xff'=1", 1},
		// Newlines within lines.
		{"x\n'=1", 1}, {"x'\n=1", 2}, {"x'=\n1", 3}, {"x'=1+\n1", 5}, {"x'=(1\n)", 5}, {"x'=(\n1)", 4}, {"x'=-\n1", 4}, {"x'=sqr\n(1)", 6}, {"x'=[\n1,2]", 4}, {"x'=[1\n,2]", 5}, {"x'=[1,\n2]", 6}, {"x'=[1,2\n]", 7}, {"x'=[-\n1,2]", 5}, {"x'=1*\r\n1", 6},
		{"x'=1\n+1", 5}, {"x'=1\n\n1", 6}, {"x'=1\n'", 5}, {"x'=1\nx=1", 6}, {"x'=1\nt'=1", 5}, {"x'=1\n\n \n)", 8},
		// Keywords in place of names.
		{"t'=1", 0}, {"sqr'=1", 0}, {"sqrt'=1", 0}, {"all'=1", 0}, {"t", 0}, {"all", 0}, {"\n\nsqr(x)'=1", 2}, {"x'=1\nsqrt'=1", 5}, {"x'=1\nall'=1", 5}, {"x'=1\nt", 5},
		{"x t=1", 2}, {"x all", 2}, {"x'sqr", 2}, {"x' t =1", 3}, {"x'=sqrt", -1}, {"x'=all all", 7}, {"x'=t all", 5}, {"x'=t sqr", 5}, {"x'=(t sqrt)", 6}, {"x'=[t,1]", 4}, {"x'=[1,all]", 6}, {"x'=[1 sqr", 6}, {"x'=[1,2 t", 8}, {"x'=sqr all", 7}, {"x'=sqrt t", 8}, {"x'=sqr(all t)", 11},
		// Two errors: that on the left counts.
		{"x=1\nX", 1}, {"x'=1 1\nX", 5}, {"x'=X\n1", 3}, {"t'=X", 0}, {"x' X =", 3},
	} {
		if x.offset < 0 {
			checkFailure(t, x.s, len(x.s), api.ErrEnd)
			continue
		}
		checkFailure(t, x.s, x.offset, api.ErrToken)
	}
}

// TestNewlinesInExpressions is about texts that are no lines.
func TestNewlinesInExpressions(t *testing.T) {
	for _, x := range []struct {
		s      string
		offset int
	}{{"\n", 0}, {"\nx", 0}, {"x\n", 1}, {"x +\nv", 3}, {"x \r\n", 3}, {"(\nx)", 1}} {
		checkExprFailure(t, x.s, x.offset, api.ErrToken)
	}
}

func TestNameErrors(t *testing.T) {
	for _, x := range []struct {
		s      string
		offset int
	}{
		{"x'=y", 3}, {"x'=1+y", 5}, {"x'=sqr(-y)", 8}, {"x'=x\nv'=x*y", 10}, {"x'=y\nv'=w", 3}, {"x'=xx", 3}, {"xx'=x", 4}, {"x'=x1", 3}, {"x'=abcdefghijklm", 3}, {"x' = 1 + \t y + z", 11},
		{"x'=1\nx'=2", 5}, {"x'=1\nv'=1\nx'=2\nv'=2", 10}, {"x'=1\nv'=1\nv'=2\nx'=2", 10}, {"x'=1\nx'=2\nx'=3", 5}, {"x'=x\n x'=x", 6},
		// Both errors: that on the left counts.
		{"x'=y\nx'=1", 3}, {"x'=1\nx'=y", 5}, {"x'=1\nv'=y\nx'=2", 8}, {"x'=1\nx'=2\nv'=y", 5},
		// A name of a later line is known, also if the line is repeated.
		{"x'=v\nv'=w\nw'=y", 13}, {"x'=v\nv'=1\nv'=y", 10},
	} {
		checkFailure(t, x.s, x.offset, api.ErrName)
	}
	for _, x := range []struct {
		s      string
		offset int
	}{{"y", 0}, {"x+y", 2}, {" xx", 1}, {"(x*v - y) + z", 7}, {"abcdefghijklm", 0}, {"abcdefghijk", 0}, {"tt", 0}, {"sqrt(sqr2)", 5}} {
		checkExprFailure(t, x.s, x.offset, api.ErrName)
	}
	if e, at, err := ParseExpr("1 + x", nil); len(e) != 0 || at != 4 || err != api.ErrName {
		t.Errorf("without names, ParseExpr gives %v, %d, %d", e, at, err)
	}
}

func TestLimitsOfNumbers(t *testing.T) {
	for _, s := range []string{
		"32768", "40000", "-40000", "32767.99999", "99999999999999999999", "[40000, 40001]", "[-40000, 40000]", "[1, 40000]", "[-40000, 1]", "[40000, 1]", "[-32768, 32768]", "1 + 40000", "40000 + 1", "sqr(40000)",
		"[2, 1]", "[1, -1]", "[-1, -2]", "[0.1, 0.0999]", "[0, -0.00002]", "1 + [2, 1]", "[2,1] - [1,2]", strings.Repeat("9", 2000), "0 * 40000",
	} {
		checkExprFailure(t, s, 0, api.ErrBig)
		checkFailure(t, "x' = "+s, 0, api.ErrBig)
		checkFailure(t, "x' = "+s+"\nv' = 1", 0, api.ErrBig)
		checkFailure(t, "x' = 1\nv' = "+s, 0, api.ErrBig)
	}
}

func TestLimitsOfExpressions(t *testing.T) {
	for _, x := range []struct {
		s     string
		nodes int
	}{
		{"1" + strings.Repeat("+1", 99), 199}, {"-1" + strings.Repeat("+1", 99), 200}, {"1" + strings.Repeat("+1", 100), 201}, {"-1" + strings.Repeat("*t", 100), 202},
		{strings.Repeat("-", 199) + "x", 200}, {strings.Repeat("-", 200) + "x", 201}, {strings.Repeat("sqr(", 199) + "x" + strings.Repeat(")", 199), 200}, {strings.Repeat("sqrt(", 200) + "x" + strings.Repeat(")", 200), 201},
		{strings.Repeat("(", 1000) + "x" + strings.Repeat(")", 1000), 1}, {strings.Repeat("-", 7000) + "x", 7001}, {"1" + strings.Repeat("/x", 3000), 6001}, {strings.Repeat("(1-", 1000) + "x" + strings.Repeat(")", 1000), 2001},
	} {
		e, at, err := ParseExpr(x.s, names)
		if x.nodes <= 200 && (err != api.OK || len(e) != x.nodes || !ValidExpr(e, 1)) {
			t.Errorf("ParseExpr(%.30q) = %v, %d, %d", x.s, e, at, err)
		}
		if x.nodes > 200 {
			checkExprFailure(t, x.s, 0, api.ErrBig)
			checkFailure(t, "x'="+x.s, 0, api.ErrBig)
			continue
		}
		if s, at, err := Parse("v'=1\nx'=" + x.s); at != 0 || err != api.OK || len(s.F[1]) != x.nodes {
			t.Errorf("Parse gives %v, %d, %d for %d nodes", s, at, err, x.nodes)
		}
	}
}

func TestLimitsOfSystems(t *testing.T) {
	for n := range 8 {
		text := ""
		for _, name := range letters[:n+1] {
			text += name + "'=t\n"
		}
		if n+1 > 6 {
			checkFailure(t, text, 0, api.ErrBig)
		} else if s, at, err := Parse(text); !equalSystems(s, simple(n+1)) || at != 0 || err != api.OK {
			t.Errorf("Parse(%q) = %v, %d, %d", text, s, at, err)
		}
	}
	for _, name := range []string{"abcdefghijklm", "a234567890123", strings.Repeat("x", 1000), "sqrtsqrtsqrtsqrt"} {
		checkFailure(t, name+"'=1", 0, api.ErrBig)
		checkFailure(t, name+"'="+name, 0, api.ErrBig)
		checkFailure(t, "x'=1\n"+name+"'=1", 0, api.ErrBig)
		checkFailure(t, "x'="+name+"\n"+name+"'=x", 0, api.ErrBig)
	}
}

func TestLimitsOfTexts(t *testing.T) {
	const text, expr = "x' = 1", "x + 1"
	fill := func(s string, n int) string { return s + strings.Repeat(" ", n-len(s)) }
	for _, n := range []int{7999, 8000} {
		if s, at, err := Parse(fill(text, n)); err != api.OK || at != 0 || !Valid(s) {
			t.Errorf("Parse gives %v, %d, %d for %d bytes", s, at, err, n)
		}
		if e, at, err := ParseExpr(fill(expr, n), names); err != api.OK || at != 0 || len(e) != 3 {
			t.Errorf("ParseExpr gives %v, %d, %d for %d bytes", e, at, err, n)
		}
	}
	for _, n := range []int{8001, 8002, 100000} {
		// Whatever is wrong with it.
		for _, s := range []string{"", "x' = 1", "x", "X", "x' = y", "x' = 40000", "x' = )", "t'=1"} {
			checkFailure(t, fill(s, n), 0, api.ErrBig)
			checkFailure(t, strings.Repeat("\n", n-len(s))+s, 0, api.ErrBig)
		}
		for _, s := range []string{"", "x", "X", "y", "40000", "x)"} {
			checkExprFailure(t, fill(s, n), 0, api.ErrBig)
		}
	}
	checkFailure(t, fill("x' = (", 8000), 8000, api.ErrEnd)
	checkFailure(t, strings.Repeat(" ", 7999)+")", 7999, api.ErrToken)
	checkExprFailure(t, strings.Repeat("(", 8000), 8000, api.ErrEnd)
	checkExprFailure(t, strings.Repeat("-", 8000), 8000, api.ErrEnd)
	checkExprFailure(t, strings.Repeat("[", 8000), 1, api.ErrToken)
	checkExprFailure(t, strings.Repeat("1", 8000), 0, api.ErrBig)
	checkFailure(t, strings.Repeat("\n", 8000), 8000, api.ErrEnd)
}

// TestOrderOfErrors is about texts with errors of different kinds.
func TestOrderOfErrors(t *testing.T) {
	seven := ""
	for _, name := range letters[:7] {
		seven += name + "'=1\n"
	}
	for _, x := range []struct {
		s      string
		offset int
		code   api.Errno
	}{
		// Syntax comes before names, wherever they are.
		{"x'=y )", 5, api.ErrToken}, {"x'=y\nx'=(", 9, api.ErrEnd}, {"x'=1\nx'=1\nX", 10, api.ErrToken}, {"x'=y+", 5, api.ErrEnd},
		// Syntax comes before limits.
		{"x'=40000 1", 9, api.ErrToken}, {"x'=[2,1", 7, api.ErrEnd}, {"x'=[40000,x]", 10, api.ErrToken}, {seven + "1", 35, api.ErrToken}, {seven + "h'", 37, api.ErrEnd}, {"abcdefghijklm'=", 15, api.ErrEnd}, {"x'=" + strings.Repeat("-", 300), 303, api.ErrEnd}, {"x'=" + strings.Repeat("-", 300) + "X", 303, api.ErrToken},
		// Names come before limits.
		{"x'=40000+y", 9, api.ErrName}, {"x'=[2,1]*y", 9, api.ErrName}, {seven + "x'=y", 38, api.ErrName}, {seven + "a'=1", 35, api.ErrName}, {"abcdefghijklm'=y", 15, api.ErrName}, {"abcdefghijklm'=1\nabcdefghijklm'=1", 17, api.ErrName}, {"x'=" + strings.Repeat("-", 300) + "y", 303, api.ErrName}, {"x'=" + strings.Repeat("1+", 300) + "y", 603, api.ErrName},
	} {
		checkFailure(t, x.s, x.offset, x.code)
	}
	for _, x := range []struct {
		s      string
		offset int
		code   api.Errno
	}{
		{"y )", 2, api.ErrToken}, {"y + ", 4, api.ErrEnd}, {"40000 x", 6, api.ErrToken}, {"[2,1] + ", 8, api.ErrEnd}, {"40000 + y", 8, api.ErrName}, {"[2, 1] - y", 9, api.ErrName}, {strings.Repeat("-", 300) + "y", 300, api.ErrName},
	} {
		checkExprFailure(t, x.s, x.offset, x.code)
	}
}

func TestFormatExpr(t *testing.T) {
	x, v, w := variable(0), variable(1), variable(2)
	for _, y := range []struct {
		e    []api.Node
		want string
	}{
		{x, "x"}, {v, "v"}, {w, "abcdefghijkl"}, {now(), "t"}, {num(-api.Max, api.Max), "all"},
		{constant(0), "0"}, {constant(one), "1"}, {constant(one * 3 / 2), "1.5"}, {constant(1), "0.0000152587890625"}, {constant(largest), "32767.9999847412109375"},
		{constant(-one), "[-1, -1]"}, {constant(-1), "[-0.0000152587890625, -0.0000152587890625]"}, {constant(-largest), "[-32767.9999847412109375, -32767.9999847412109375]"},
		{num(one, 2*one), "[1, 2]"}, {num(-one, one/2), "[-1, 0.5]"}, {num(0, 1), "[0, 0.0000152587890625]"}, {num(-one, 0), "[-1, 0]"}, {num(-largest, largest), "[-32767.9999847412109375, 32767.9999847412109375]"},
		{join(api.Neg, x), "(-x)"}, {join(api.Neg, constant(one)), "(-1)"}, {join(api.Neg, constant(-one)), "(-[-1, -1])"}, {join(api.Neg, join(api.Neg, now())), "(-(-t))"},
		{join(api.Sqr, x), "sqr(x)"}, {join(api.Sqrt, x), "sqrt(x)"}, {join(api.Sqr, join(api.Neg, x)), "sqr((-x))"}, {join(api.Sqrt, join(api.Sqr, constant(0))), "sqrt(sqr(0))"},
		{join(api.Add, x, v), "(x + v)"}, {join(api.Sub, x, v), "(x - v)"}, {join(api.Mul, x, v), "(x * v)"}, {join(api.Div, x, v), "(x / v)"},
		{join(api.Sub, join(api.Sub, x, v), now()), "((x - v) - t)"}, {join(api.Sub, x, join(api.Sub, v, now())), "(x - (v - t))"},
		{join(api.Add, join(api.Mul, x, v), join(api.Div, num(-one, one), join(api.Sqr, join(api.Add, v, now())))), "((x * v) + ([-1, 1] / sqr((v + t))))"},
	} {
		if got := FormatExpr(y.e, names); got != y.want {
			t.Errorf("FormatExpr(%v) = %q, want %q", y.e, got, y.want)
		}
	}
	if got := FormatExpr(join(api.Neg, now()), nil); got != "(-t)" {
		t.Errorf("without names, FormatExpr gives %q", got)
	}
}

func TestFormat(t *testing.T) {
	for _, y := range []struct {
		s    api.System
		want string
	}{
		{simple(1), "a' = t\n"},
		{simple(6), "a' = t\nb' = t\nc' = t\nd' = t\ne' = t\nf' = t\n"},
		{api.System{Names: []string{"x", "abcdefghijkl"}, F: [][]api.Node{variable(1), join(api.Mul, constant(-one), variable(0))}}, "x' = abcdefghijkl\nabcdefghijkl' = ([-1, -1] * x)\n"},
	} {
		if got := Format(y.s); got != y.want {
			t.Errorf("Format(%v) = %q, want %q", y.s, got, y.want)
		}
	}
}

// TestExamples is about the examples of the chapter.
func TestExamples(t *testing.T) {
	s, at, err := Parse("x' = v\nv' = -x\n")
	want := api.System{Names: []string{"x", "v"}, F: [][]api.Node{{{Op: api.Var, N: 1}}, {{Op: api.Neg}, {Op: api.Var}}}}
	if !equalSystems(s, want) || at != 0 || err != api.OK {
		t.Errorf("Parse gives %v, %d, %d", s, at, err)
	}
	e := join(api.Sub, constant(one*3/2), join(api.Sqr, now()))
	if text := FormatExpr(e, nil); text != "(1.5 - sqr(t))" {
		t.Errorf("FormatExpr gives %q", text)
	}
	checkFailure(t, "x' = y", 5, api.ErrName)
	checkFailure(t, "x' = (x", 7, api.ErrEnd)
}

// oddExpressions returns expressions that are not valid for 2 state variables.
func oddExpressions() [][]api.Node {
	return [][]api.Node{
		nil, {{}}, {{Op: 11}}, {{Op: -1}}, {{Op: api.Neg}}, {{Op: api.Add}, {Op: api.Time}}, {{Op: api.Time}, {Op: api.Time}}, variable(2), variable(-1), variable(math.MinInt), num(1, 0), num(math.MinInt64, math.MaxInt64), num(-api.Max, 0),
		{{Op: api.Time, N: 3}}, long(201), long(200)[1:], deep(5000), deep(300)[:299], slices.Repeat([]api.Node{{Op: api.Div}}, 500), slices.Repeat([]api.Node{{Op: math.MaxInt}}, 9), join(api.Sub, nil, variable(7)), join(api.Sqrt, num(2, -2)),
	}
}

// TestNothingPanics calls all functions with all kinds of arguments, those for
// which nothing else is specified among them.
func TestNothingPanics(t *testing.T) {
	boxes := [][]api.Interval{nil, {entire}, {entire, between(1, 0), point(api.Max)}, {between(math.MinInt64, math.MaxInt64), between(math.MaxInt64, math.MinInt64)}}
	lists := [][]string{nil, {"x"}, {"x", "x", "x"}, {"", "\xff", "t"}, {strings.Repeat("x", 9000)}, letters}
	texts := []string{"", "x", "x+v\xff", "x' = x", "x'", "\x00", strings.Repeat("(", 8000), strings.Repeat("-", 8000), strings.Repeat("1-", 4000), strings.Repeat("9", 8001), "a+b+c+d+e+f+g+h"}
	expressions := append(oddExpressions(), now(), long(200), deep(200), variable(1))
	for _, e := range expressions {
		Operands(e)
		ValidExpr(e, -1)
		ValidExpr(e, math.MaxInt)
		for _, l := range lists {
			FormatExpr(e, l)
			for _, s := range []api.System{{Names: l, F: [][]api.Node{e}}, {F: [][]api.Node{e, e}}, {Names: l}, {Names: l, F: slices.Repeat([][]api.Node{e}, len(l))}} {
				Valid(s)
				Format(s)
				for _, b := range boxes {
					Derivatives(s, b, between(3, 2))
				}
			}
		}
		for _, b := range boxes {
			Eval(e, b, point(0))
			Eval(e, b, between(math.MaxInt64, math.MinInt64))
		}
	}
	for _, s := range texts {
		Parse(s)
		for _, l := range lists {
			ParseExpr(s, l)
		}
	}
}

// TestValidValues checks that values are valid intervals whatever valid intervals
// they come from: P3 of the document.
func TestValidValues(t *testing.T) {
	l := []api.Interval{entire, point(0), point(1), point(-1), point(largest), point(-largest), between(-largest, largest), between(-1, 1), between(0, largest), between(-one, 0), between(one, 4*one)}
	for _, x := range operations {
		e := join(x.op, [][]api.Node{variable(0), variable(1)}[:x.operands]...)
		for _, a := range l {
			for _, b := range l {
				if got := Eval(e, []api.Interval{a, b}, b); !ValidExpr(num(got.Lo, got.Hi), 0) {
					t.Errorf("Eval(%v) = %v for %v and %v", e, got, a, b)
				}
			}
		}
	}
}

// TestResultsDependOnArgumentsOnly calls the functions again after other calls: P2 of the document.
func TestResultsDependOnArgumentsOnly(t *testing.T) {
	const text = "x' = v/w + 0.1\nv' = -x*sqr(t)\nw' = sqrt(x) - all"
	box := []api.Interval{between(one, 2*one), point(5), point(7)}
	call := func() (api.System, []api.Interval, string) {
		s, _, _ := Parse(text)
		return s, Derivatives(s, box, point(one)), Format(s)
	}
	s, l, written := call()
	Parse("a'=1\nx'=y")
	ParseExpr("sqr(", names)
	ParseExpr("v*abcdefghijkl", names)
	Eval(long(200), nil, entire)
	s2, l2, written2 := call()
	if !equalSystems(s, s2) || !slices.Equal(l, l2) || written != written2 {
		t.Errorf("first %v, %v, %q, then %v, %v, %q", s, l, written, s2, l2, written2)
	}
}

// TestResultsAreNewMemory overwrites the results, with all the room behind them:
// neither the arguments nor the other results may change.
func TestResultsAreNewMemory(t *testing.T) {
	overwrite := func(e []api.Node) {
		e = e[:cap(e)]
		for i := range e {
			e[i] = api.Node{Op: 99, N: 99}
		}
	}
	e := join(api.Sub, join(api.Neg, variable(0)), join(api.Mul, now(), constant(7)))
	before := slices.Clone(e)
	l := Operands(e)
	overwrite(l[0])
	if !slices.Equal(l[1], before[3:]) || !slices.Equal(e, before) {
		t.Errorf("the operands are %v, the expression is %v", l, e)
	}
	overwrite(l[1])
	if !slices.Equal(e, before) {
		t.Errorf("the expression is %v", e)
	}
	s, _, _ := Parse("x'=v+1\nv'=-x*x\nw'=t")
	overwrite(s.F[0])
	overwrite(s.F[2])
	if !slices.Equal(s.F[1], join(api.Mul, join(api.Neg, variable(0)), variable(0))) {
		t.Errorf("an expression of the system is %v", s.F[1])
	}
	mine := slices.Clone(names)
	ParseExpr("x+v", mine)
	s = api.System{Names: mine, F: [][]api.Node{variable(1), e, now()}}
	box := []api.Interval{point(1), point(2), point(3)}
	Derivatives(s, box, entire)[1] = entire
	Format(s)
	if !slices.Equal(mine, names) || !slices.Equal(box, []api.Interval{point(1), point(2), point(3)}) || !slices.Equal(e, before) {
		t.Errorf("the arguments are %v, %v", s, box)
	}
}

// TestImports checks that the package imports no other layers than fixed and interval.
func TestImports(t *testing.T) {
	files, err := filepath.Glob("*.go")
	if err != nil || len(files) == 0 {
		t.Fatal("no files", err)
	}
	allowed := []string{`"armillary/api"`, `"armillary/fixed"`, `"armillary/interval"`}
	for _, name := range files {
		if strings.HasSuffix(name, "_test.go") {
			continue
		}
		file, err := goparser.ParseFile(gotoken.NewFileSet(), name, nil, goparser.ImportsOnly)
		if err != nil {
			t.Fatal(err)
		}
		for _, spec := range file.Imports {
			if path := spec.Path.Value; strings.HasPrefix(path, `"armillary`) && !slices.Contains(allowed, path) {
				t.Errorf("%s imports %s", name, path)
			}
		}
	}
}
