package tape

import (
	goparser "go/parser"
	gotoken "go/token"
	"math"
	"path/filepath"
	"slices"
	"strings"
	"testing"

	"armillary/api"
	"armillary/ode"
)

// Tests of P8.1: the functions return what H1 to H3 say.

const (
	one     = api.One
	largest = api.Max - 1
)

var entire = api.Interval{Lo: -api.Max, Hi: api.Max}

func between(lo, hi int64) api.Interval { return api.Interval{Lo: lo, Hi: hi} }

func point(x int64) api.Interval { return between(x, x) }

// num, constant, variable, now and join return expressions.
func num(lo, hi int64) []api.Node { return []api.Node{{Op: api.Num, C: between(lo, hi)}} }

func constant(x int64) []api.Node { return num(x, x) }

func variable(i int) []api.Node { return []api.Node{{Op: api.Var, N: i}} }

func now() []api.Node { return []api.Node{{Op: api.Time}} }

func join(op int, operands ...[]api.Node) []api.Node {
	return append([]api.Node{{Op: op}}, slices.Concat(operands...)...)
}

// do returns an instruction with the given indices in its fields A and B.
func do(op int, at ...int) api.Instruction {
	fields := append(slices.Clone(at), 0, 0)
	return api.Instruction{Op: op, A: fields[0], B: fields[1]}
}

// value returns the instruction of a constant.
func value(lo, hi int64) api.Instruction {
	return api.Instruction{Op: api.Num, C: between(lo, hi)}
}

// tapeOf returns a tape whose dimension is the number of its outputs.
func tapeOf(out []int, l ...api.Instruction) api.Tape {
	return api.Tape{N: len(out), L: l, Out: out}
}

// times returns the instruction of the time and some others behind it, all of
// which are different.
func times(n int) []api.Instruction {
	l := []api.Instruction{do(api.Time)}
	for i := range n - 1 {
		l = append(l, do(api.Neg, i))
	}
	return l
}

// doublings returns the given number of instructions, each of which doubles the
// value of that before it, behind the first coordinate.
func doublings(n int) []api.Instruction {
	l := []api.Instruction{do(api.Var, 0)}
	for i := range n {
		l = append(l, do(api.Add, i, i))
	}
	return l
}

// different returns an expression of the given number of nodes, all of which are
// roots of different expressions, with constants from a number on.
func different(nodes int, from int64) []api.Node {
	switch nodes {
	case 1:
		return constant(from)
	case 2:
		return join(api.Neg, constant(from))
	}
	return join(api.Add, different(nodes-2, from+1), constant(from))
}

var letters = []string{"a", "b", "c", "d", "e", "f", "g", "h"}

// systemOf returns a system with the given expressions.
func systemOf(rows ...[]api.Node) api.System {
	return api.System{Names: letters[:len(rows)], F: rows}
}

func equalTapes(a, b api.Tape) bool {
	return a.N == b.N && slices.Equal(a.L, b.L) && slices.Equal(a.Out, b.Out)
}

func equalRows(a, b [][]api.Node) bool {
	return slices.EqualFunc(a, b, func(e, f []api.Node) bool { return slices.Equal(e, f) })
}

func zero(c api.Tape) bool { return c.N == 0 && len(c.L) == 0 && len(c.Out) == 0 }

// The uses of the fields A and B of an instruction.
const (
	unused     = 0
	coordinate = 1
	operand    = 2
)

var forms = []struct{ op, a, b int }{
	{api.Num, unused, unused}, {api.Var, coordinate, unused}, {api.Time, unused, unused},
	{api.Neg, operand, unused}, {api.Sqr, operand, unused}, {api.Sqrt, operand, unused},
	{api.Add, operand, operand}, {api.Sub, operand, operand}, {api.Mul, operand, operand}, {api.Div, operand, operand},
}

// fits reports whether a field of the instruction with index i may be k in a tape
// of dimension 2.
func fits(use, k, i int) bool {
	return k >= 0 && k < []int{1, 2, i}[use]
}

// checkValid checks what Valid says of a tape with an instruction, which is the
// last, and of those with others behind it and with only others used.
func checkValid(t *testing.T, in api.Instruction, i int, want bool) {
	t.Helper()
	l := append(times(i)[:i], in)
	tapes := []api.Tape{
		tapeOf([]int{i, i}, l...),
		tapeOf([]int{0, i}, slices.Concat(l, times(3))...),
		tapeOf([]int{i + 1, i + 1}, slices.Concat(l, times(1))...),
	}
	for _, c := range tapes {
		if Valid(c) != want {
			t.Errorf("Valid(%v) = %v", c, !want)
		}
	}
}

func TestValidChecksOperands(t *testing.T) {
	numbers := []int{math.MinInt, -2, -1, 0, 1, 2, 3, 4, 5, 6, 400, math.MaxInt}
	for _, x := range forms {
		for i := range 5 {
			for _, a := range numbers {
				for _, b := range numbers {
					checkValid(t, do(x.op, a, b), i, fits(x.a, a, i) && fits(x.b, b, i))
				}
			}
		}
	}
}

func TestValidChecksIntervals(t *testing.T) {
	for _, x := range []struct {
		c     api.Interval
		valid bool
	}{
		{point(1), true}, {point(-1), true}, {between(-1, 0), true}, {between(0, 1), true}, {point(largest), true}, {point(-largest), true}, {between(-largest, largest), true}, {entire, true},
		{between(1, 0), false}, {between(0, -1), false}, {between(-api.Max, 0), false}, {between(0, api.Max), false}, {point(api.Max), false}, {point(-api.Max), false}, {between(api.Max, -api.Max), false},
		{between(-api.Max-1, api.Max+1), false}, {between(math.MinInt64, math.MaxInt64), false}, {between(math.MaxInt64, math.MinInt64), false},
	} {
		for _, y := range forms {
			for i := range 3 {
				in := do(y.op)
				if y.a == operand && i == 0 {
					continue
				}
				checkValid(t, in, i, true)
				in.C = x.c
				checkValid(t, in, i, x.valid && y.op == api.Num)
			}
		}
		checkValid(t, api.Instruction{Op: api.Num, A: 1, C: x.c}, 3, false)
		checkValid(t, api.Instruction{Op: api.Num, B: 1, C: x.c}, 3, false)
	}
}

func TestValidChecksOperations(t *testing.T) {
	for _, op := range []int{0, -1, -7, 11, 12, 100, 256 + api.Num, 1<<32 + api.Time, math.MaxInt, math.MinInt} {
		for i := range 3 {
			checkValid(t, do(op), i, false)
			checkValid(t, api.Instruction{Op: op, C: point(1)}, i, false)
			checkValid(t, do(op, 1, 1), i, false)
		}
	}
}

func TestValidChecksEachInstruction(t *testing.T) {
	for _, odd := range []api.Instruction{{}, do(11), do(api.Var, 1), value(1, 0), do(api.Neg, 50), do(api.Sub, -1, 0)} {
		for i := range 50 {
			l := times(50)
			l[i] = odd
			if c := tapeOf([]int{0}, l...); Valid(c) {
				t.Errorf("Valid is true although instruction %d is %v", i, odd)
			}
		}
	}
}

func TestValidChecksDimensions(t *testing.T) {
	for n := -2; n <= 9; n++ {
		for outputs := range 9 {
			want := n >= 1 && n <= 6 && outputs == n
			for _, l := range [][]api.Instruction{times(1), times(9), times(400)} {
				if c := (api.Tape{N: n, L: l, Out: make([]int, outputs)}); Valid(c) != want {
					t.Errorf("Valid = %v for the dimension %d and %d outputs", !want, n, outputs)
				}
			}
		}
		// The coordinates that there are.
		for i := range 8 {
			if n < 1 {
				continue
			}
			if c := (api.Tape{N: n, L: []api.Instruction{do(api.Var, i)}, Out: make([]int, n)}); Valid(c) != (n <= 6 && i < n) {
				t.Errorf("Valid = %v for the dimension %d and coordinate %d", Valid(c), n, i)
			}
		}
	}
	for _, n := range []int{math.MinInt, math.MaxInt} {
		if Valid(api.Tape{N: n, L: times(1), Out: []int{0}}) {
			t.Errorf("Valid = true for the dimension %d", n)
		}
	}
}

func TestValidChecksOutputs(t *testing.T) {
	for _, n := range []int{1, 2, 7, 399, 400} {
		for _, x := range []struct {
			i    int
			want bool
		}{{0, true}, {n - 1, true}, {n / 2, true}, {n, false}, {n + 1, false}, {-1, false}, {-n, false}, {math.MaxInt, false}, {math.MinInt, false}} {
			for _, out := range [][]int{{x.i}, {0, x.i}, {x.i, 0}, {0, 0, x.i, 0, 0, 0}, {0, 0, 0, 0, 0, x.i}} {
				if c := tapeOf(out, times(n)...); Valid(c) != x.want {
					t.Errorf("Valid = %v for %d instructions and the outputs %v", !x.want, n, out)
				}
			}
		}
	}
}

func TestValidChecksLengths(t *testing.T) {
	for _, n := range []int{1, 2, 399, 400, 401, 402, 1000} {
		for _, l := range [][]api.Instruction{times(n), slices.Repeat(times(1), n), doublings(n - 1)} {
			for _, out := range [][]int{{0}, {n - 1}, {min(n-1, 399)}} {
				if Valid(tapeOf(out, l...)) != (n <= 400) {
					t.Errorf("Valid = %v for %d instructions", n > 400, n)
				}
			}
		}
	}
	for _, c := range []api.Tape{{}, {N: 1}, {N: 1, Out: []int{0}}, {N: 1, L: []api.Instruction{}, Out: []int{0}}, {L: times(1)}, {L: times(1), Out: []int{0}}, {N: 1, L: times(1)}, {N: 1, L: times(1), Out: []int{}}, {Out: []int{0}}, {N: 2, Out: []int{0, 0}}} {
		if Valid(c) {
			t.Errorf("Valid(%v) = true", c)
		}
	}
}

func TestCompile(t *testing.T) {
	x, v, w, three := do(api.Var, 0), do(api.Var, 1), do(api.Var, 2), value(3*one, 3*one)
	for _, y := range []struct {
		s    string
		want api.Tape
	}{
		{"x'=x", tapeOf([]int{0}, x)},
		{"x'=t", tapeOf([]int{0}, do(api.Time))},
		{"x'=all", tapeOf([]int{0}, value(-api.Max, api.Max))},
		{"x'=0", tapeOf([]int{0}, value(0, 0))},
		{"x'=[-1,2]", tapeOf([]int{0}, value(-one, 2*one))},
		{"x'=-x", tapeOf([]int{1}, x, do(api.Neg, 0))},
		{"x'=sqr(x)", tapeOf([]int{1}, x, do(api.Sqr, 0))},
		{"x'=sqrt(x)", tapeOf([]int{1}, x, do(api.Sqrt, 0))},
		{"x'=x+t", tapeOf([]int{2}, x, do(api.Time), do(api.Add, 0, 1))},
		{"x'=x-t", tapeOf([]int{2}, x, do(api.Time), do(api.Sub, 0, 1))},
		{"x'=x*t", tapeOf([]int{2}, x, do(api.Time), do(api.Mul, 0, 1))},
		{"x'=x/t", tapeOf([]int{2}, x, do(api.Time), do(api.Div, 0, 1))},
		{"x'=t/x", tapeOf([]int{2}, do(api.Time), x, do(api.Div, 0, 1))},
		// All coordinates, in another order.
		{"x'=w\nv'=x\nw'=v", tapeOf([]int{0, 1, 2}, w, x, v)},
		{"x'=3\nv'=w\nw'=t", tapeOf([]int{0, 1, 2}, three, w, do(api.Time))},
		{"a'=f\nb'=e\nc'=d\nd'=c\ne'=b\nf'=a", tapeOf([]int{0, 1, 2, 3, 4, 5}, do(api.Var, 5), do(api.Var, 4), do(api.Var, 3), do(api.Var, 2), do(api.Var, 1), do(api.Var, 0))},
		// Equal subexpressions within a row, in several rows, and equal rows.
		{"x'=x+x", tapeOf([]int{1}, x, do(api.Add, 0, 0))},
		{"x'=-x*-x", tapeOf([]int{2}, x, do(api.Neg, 0), do(api.Mul, 1, 1))},
		{"x'=x*x/(x*x+t)", tapeOf([]int{4}, x, do(api.Mul, 0, 0), do(api.Time), do(api.Add, 1, 2), do(api.Div, 1, 3))},
		{"x'=v*v\nv'=3-v*v", tapeOf([]int{1, 3}, v, do(api.Mul, 0, 0), three, do(api.Sub, 2, 1))},
		{"x'=sqr(v)\nv'=sqr(v)", tapeOf([]int{1, 1}, v, do(api.Sqr, 0))},
		{"x'=x\nv'=x\nw'=x", tapeOf([]int{0, 0, 0}, x)},
		{"x'=sqrt(x+3)\nv'=x+3\nw'=x", tapeOf([]int{3, 2, 0}, x, three, do(api.Add, 0, 1), do(api.Sqrt, 2))},
		{"x'=x\nv'=x+3\nw'=3", tapeOf([]int{0, 2, 1}, x, three, do(api.Add, 0, 1))},
		// Operations that are alike, and operands in both orders.
		{"x'=sqr(x)-x*x", tapeOf([]int{3}, x, do(api.Sqr, 0), do(api.Mul, 0, 0), do(api.Sub, 1, 2))},
		{"x'=x-v\nv'=v-x", tapeOf([]int{2, 3}, x, v, do(api.Sub, 0, 1), do(api.Sub, 1, 0))},
		{"x'=x/v\nv'=v/x", tapeOf([]int{2, 3}, x, v, do(api.Div, 0, 1), do(api.Div, 1, 0))},
		{"x'=x+v\nv'=v+x", tapeOf([]int{2, 3}, x, v, do(api.Add, 0, 1), do(api.Add, 1, 0))},
		{"x'=x*v\nv'=v*x", tapeOf([]int{2, 3}, x, v, do(api.Mul, 0, 1), do(api.Mul, 1, 0))},
		{"x'=-x\nv'=sqr(x)\nw'=sqrt(x)", tapeOf([]int{1, 2, 3}, x, do(api.Neg, 0), do(api.Sqr, 0), do(api.Sqrt, 0))},
		{"x'=x-x\nv'=0*x\nw'=x/x", tapeOf([]int{1, 3, 4}, x, do(api.Sub, 0, 0), value(0, 0), do(api.Mul, 2, 0), do(api.Div, 0, 0))},
		// Constants with equal and with different ends.
		{"x'=3+3.0", tapeOf([]int{1}, three, do(api.Add, 0, 0))},
		{"x'=3*[3,3]", tapeOf([]int{1}, three, do(api.Mul, 0, 0))},
		{"x'=3-[3,4]", tapeOf([]int{2}, three, value(3*one, 4*one), do(api.Sub, 0, 1))},
		{"x'=[2,3]-[3,3]-[2,4]-[2,3]", tapeOf([]int{5}, value(2*one, 3*one), three, do(api.Sub, 0, 1), value(2*one, 4*one), do(api.Sub, 2, 3), do(api.Sub, 4, 0))},
		{"x'=0.1+0.100001+0.2", tapeOf([]int{3}, value(6553, 6554), do(api.Add, 0, 0), value(13107, 13108), do(api.Add, 1, 2))},
		{"x'=[-1,-1]*-1", tapeOf([]int{3}, value(-one, -one), value(one, one), do(api.Neg, 1), do(api.Mul, 0, 2))},
		{"x'=all\nv'=x-all", tapeOf([]int{0, 2}, value(-api.Max, api.Max), x, do(api.Sub, 1, 0))},
		{"x'=0\nv'=x+t", tapeOf([]int{0, 3}, value(0, 0), x, do(api.Time), do(api.Add, 1, 2))},
		// Operands from left to right, each before its operation.
		{"x'=(t-x)/(3*v)-(-w)\nv'=1\nw'=2", tapeOf([]int{9, 10, 11}, do(api.Time), x, do(api.Sub, 0, 1), three, v, do(api.Mul, 3, 4), do(api.Div, 2, 5), w, do(api.Neg, 7), do(api.Sub, 6, 8), value(one, one), value(2*one, 2*one))},
	} {
		s, _, err := ode.Parse(y.s)
		if err != api.OK {
			t.Fatalf("%q is no system", y.s)
		}
		if got := Compile(s); !equalTapes(got, y.want) {
			t.Errorf("Compile(%q) = %v, want %v", y.s, got, y.want)
		}
	}
}

// TestCompileLimits is about systems with as many instructions as there may be, and
// with more.
func TestCompileLimits(t *testing.T) {
	first, second := different(200, 0), different(200, 1000)
	for _, x := range []struct {
		rows [][]api.Node
		want int
	}{
		{[][]api.Node{first}, 200},
		{[][]api.Node{first, first, first, first, first, first}, 200},
		{[][]api.Node{first, different(199, 1000)}, 399},
		{[][]api.Node{first, second}, 400},
		{[][]api.Node{first, second, second, first}, 400},
		{[][]api.Node{first, second, constant(50), constant(1050), different(198, 1), different(198, 1001)}, 400},
		{[][]api.Node{constant(9), now(), different(199, 0), different(199, 1000)}, 399},
		{[][]api.Node{variable(3), now(), first, different(198, 1000)}, 400},
		{[][]api.Node{first, second, now()}, 401},
		{[][]api.Node{first, second, constant(-1)}, 401},
		{[][]api.Node{now(), first, second}, 401},
		{[][]api.Node{first, variable(1), second}, 401},
		{[][]api.Node{first, second, join(api.Sub, constant(3), constant(1))}, 401},
		{[][]api.Node{first, second, first, second, second, variable(5)}, 401},
		{[][]api.Node{first, second, different(200, 2000)}, 600},
		{[][]api.Node{first, second, different(200, 2000), different(200, 3000), different(200, 4000), different(200, 5000)}, 1200},
	} {
		c := Compile(systemOf(x.rows...))
		if x.want > 400 && !zero(c) || x.want <= 400 && (c.N != len(x.rows) || len(c.L) != x.want || len(c.Out) != len(x.rows)) {
			t.Errorf("Compile returns %d instructions for %d", len(c.L), x.want)
		}
		if x.want <= 400 && (!Valid(c) || !equalRows(Decompile(c), x.rows)) {
			t.Errorf("Compile returns other expressions for %d instructions", x.want)
		}
	}
}

func TestEvalOfOperations(t *testing.T) {
	box := []api.Interval{between(-one, 2*one), point(3 * one), between(one, 4*one), entire, point(-7), between(0, largest)}
	time := between(one/2, one)
	l := []api.Instruction{do(api.Var, 0), do(api.Var, 1), do(api.Var, 2), do(api.Var, 3), do(api.Var, 4), do(api.Var, 5), do(api.Time), value(0, 0), value(2, 2), value(-4*one, -4*one), value(-1, 4*one), value(-9, -1), value(0, 4*one)}
	const x, three, far, any, v, w, now, nought, two, negative, mixed, below, root = 0, 1, 2, 3, 4, 5, 6, 7, 8, 9, 10, 11, 12
	for _, y := range []struct {
		in   api.Instruction
		want api.Interval
	}{
		{value(-5, 8), between(-5, 8)}, {value(0, 0), point(0)}, {value(-api.Max, api.Max), entire},
		{do(api.Var, 0), between(-one, 2*one)}, {do(api.Var, 1), point(3 * one)}, {do(api.Var, 3), entire}, {do(api.Var, 5), between(0, largest)},
		{do(api.Time), time},
		{do(api.Neg, x), between(-2*one, one)}, {do(api.Neg, now), between(-one, -one/2)}, {do(api.Neg, any), entire},
		{do(api.Sqr, x), between(0, 4*one)}, {do(api.Sqr, far), between(one, 16*one)}, {do(api.Sqr, w), entire}, {do(api.Sqr, v), between(0, 1)}, {do(api.Sqr, any), entire},
		{do(api.Sqrt, far), between(one, 2*one)}, {do(api.Sqrt, two), between(362, 363)}, {do(api.Sqrt, nought), point(0)}, {do(api.Sqrt, root), between(0, 2*one)},
		// A lower endpoint that is negative.
		{do(api.Sqrt, mixed), entire}, {do(api.Sqrt, x), entire}, {do(api.Sqrt, v), entire}, {do(api.Sqrt, negative), entire}, {do(api.Sqrt, below), entire}, {do(api.Sqrt, any), entire},
		{do(api.Add, x, far), between(0, 6*one)}, {do(api.Add, far, x), between(0, 6*one)}, {do(api.Add, any, x), entire}, {do(api.Add, w, now), entire}, {do(api.Add, v, v), point(-14)},
		{do(api.Sub, x, far), between(-5*one, one)}, {do(api.Sub, far, x), between(-one, 5*one)}, {do(api.Sub, x, x), between(-3*one, 3*one)}, {do(api.Sub, any, any), entire}, {do(api.Sub, nought, three), point(-3 * one)},
		{do(api.Mul, x, far), between(-4*one, 8*one)}, {do(api.Mul, x, x), between(-2*one, 4*one)}, {do(api.Mul, x, three), between(-3*one, 6*one)}, {do(api.Mul, now, v), between(-7, -3)}, {do(api.Mul, nought, any), entire}, {do(api.Mul, w, w), entire},
		{do(api.Div, x, far), between(-one, 2*one)}, {do(api.Div, far, three), between(21845, 87382)}, {do(api.Div, three, far), between(3*one/4, 3*one)}, {do(api.Div, far, x), entire}, {do(api.Div, three, nought), entire}, {do(api.Div, nought, any), entire}, {do(api.Div, nought, three), point(0)}, {do(api.Div, far, far), between(one/4, 4*one)},
	} {
		all := append(slices.Clone(l), y.in)
		out := []int{len(l), len(l), x, len(l), now, len(l)}
		want := []api.Interval{y.want, y.want, box[0], y.want, time, y.want}
		if got := Eval(tapeOf(out, all...), box, time); !slices.Equal(got, want) {
			t.Errorf("Eval of %v = %v, want %v", y.in, got, y.want)
		}
		// The same as an operand.
		all = append(all, do(api.Sub, len(l), nought))
		if got := Eval(tapeOf(slices.Repeat([]int{len(l) + 1}, 6), all...), box, time); !slices.Equal(got, slices.Repeat([]api.Interval{y.want}, 6)) {
			t.Errorf("Eval of %v as an operand = %v, want %v", y.in, got, y.want)
		}
	}
}

func TestEvalOfOutputs(t *testing.T) {
	l := []api.Instruction{do(api.Var, 2), do(api.Var, 0), do(api.Time), do(api.Sub, 0, 1), do(api.Sub, 1, 0), do(api.Div, 4, 1), do(api.Div, 1, 4)}
	values := []api.Interval{point(4 * one), point(one), point(7), point(3 * one), point(-3 * one), point(-3 * one), between(-21846, -21845)}
	box := []api.Interval{point(one), entire, point(4 * one)}
	for i := range l {
		for j := range l {
			for k := range l {
				out, want := []int{i, j, k}, []api.Interval{values[i], values[j], values[k]}
				if got := Eval(tapeOf(out, l...), box, point(7)); !slices.Equal(got, want) {
					t.Errorf("Eval = %v for the outputs %v, want %v", got, out, want)
				}
			}
		}
	}
	for n := 1; n <= 6; n++ {
		box, want, c := []api.Interval{}, []api.Interval{}, api.Tape{N: n}
		for i := range n {
			box, want = append(box, point(int64(i))), append(want, point(int64(n-1-i)))
			c.L, c.Out = append(c.L, do(api.Var, i)), append(c.Out, n-1-i)
		}
		if got := Eval(c, box, entire); !slices.Equal(got, want) {
			t.Errorf("Eval = %v, want %v", got, want)
		}
	}
}

// TestEvalOfLongTapes is about tapes whose expressions could not be evaluated node
// by node.
func TestEvalOfLongTapes(t *testing.T) {
	for n := range 400 {
		want := entire
		if n <= 30 {
			want = between(-1<<n, 1<<n)
		}
		if got := Eval(tapeOf([]int{n}, doublings(n)...), []api.Interval{between(-1, 1)}, point(0)); !slices.Equal(got, []api.Interval{want}) {
			t.Errorf("Eval of %d doublings = %v, want %v", n, got, want)
		}
		if got := Eval(tapeOf([]int{n}, doublings(n)...), []api.Interval{point(0)}, entire); !slices.Equal(got, []api.Interval{point(0)}) {
			t.Errorf("Eval of %d doublings of 0 = %v", n, got)
		}
		want = point(5)
		if n%2 == 1 {
			want = point(-5)
		}
		if got := Eval(tapeOf([]int{n}, times(n+1)...), []api.Interval{entire}, point(5)); !slices.Equal(got, []api.Interval{want}) {
			t.Errorf("Eval of %d negations = %v, want %v", n, got, want)
		}
	}
}

func TestDecompile(t *testing.T) {
	x, v, any := variable(0), variable(1), num(-api.Max, api.Max)
	l := []api.Instruction{
		do(api.Var, 0), do(api.Var, 1), do(api.Time), value(-api.Max, api.Max), value(0, 0), value(-3, 5), do(api.Neg, 1), do(api.Sqr, 0), do(api.Sqrt, 5),
		do(api.Add, 0, 1), do(api.Sub, 0, 1), do(api.Mul, 1, 0), do(api.Div, 2, 3), do(api.Sub, 1, 0), do(api.Sub, 10, 13), do(api.Mul, 11, 11), do(api.Div, 14, 6), do(api.Neg, 16),
		do(api.Var, 1), do(api.Sub, 18, 1), do(api.Add, 4, 8),
	}
	minus := join(api.Sub, join(api.Sub, x, v), join(api.Sub, v, x))
	rows := [][]api.Node{
		x, v, now(), any, constant(0), num(-3, 5), join(api.Neg, v), join(api.Sqr, x), join(api.Sqrt, num(-3, 5)),
		join(api.Add, x, v), join(api.Sub, x, v), join(api.Mul, v, x), join(api.Div, now(), any), join(api.Sub, v, x), minus, join(api.Mul, join(api.Mul, v, x), join(api.Mul, v, x)), join(api.Div, minus, join(api.Neg, v)), join(api.Neg, join(api.Div, minus, join(api.Neg, v))),
		v, join(api.Sub, v, v), join(api.Add, constant(0), join(api.Sqrt, num(-3, 5))),
	}
	for i := range l {
		for j := range l {
			want := [][]api.Node{rows[i], rows[j]}
			if got := Decompile(tapeOf([]int{i, j}, l...)); !equalRows(got, want) {
				t.Errorf("Decompile = %v for the outputs %d, %d, want %v", got, i, j, want)
			}
		}
	}
	got := Decompile(tapeOf([]int{14, 14, 0, 9, 14, 9}, l...))
	if want := [][]api.Node{minus, minus, x, rows[9], minus, rows[9]}; !equalRows(got, want) {
		t.Errorf("Decompile = %v, want %v", got, want)
	}
}

// checkSize checks that an expression that should have the given number of nodes
// has as many, or is missing if those are too many.
func checkSize(t *testing.T, e []api.Node, nodes int) {
	t.Helper()
	if nodes > 200 && e != nil || nodes <= 200 && len(e) != nodes {
		t.Errorf("Decompile returns %d nodes of %d", len(e), nodes)
	}
}

// TestDecompileLimits is about expressions with as many nodes as there may be, and
// with more.
func TestDecompileLimits(t *testing.T) {
	for n := 1; n <= 400; n++ {
		rows := Decompile(tapeOf([]int{n - 1}, times(n)...))
		checkSize(t, rows[0], n)
		// Here the expressions have 1, 3, 7, .. nodes: 8 of them are too many, and 63
		// are out of range.
		rows = Decompile(tapeOf([]int{n - 1}, doublings(n-1)...))
		checkSize(t, rows[0], 1<<min(n, 8)-1)
	}
	// Sums of two expressions of times.
	l := append(times(250), do(api.Add, 98, 99), do(api.Mul, 99, 99), do(api.Sub, 99, 98), do(api.Div, 0, 197), do(api.Add, 197, 1), do(api.Neg, 250), do(api.Add, 0, 200))
	for _, x := range []struct{ i, nodes int }{{98, 99}, {199, 200}, {200, 201}, {249, 250}, {250, 200}, {251, 201}, {252, 200}, {253, 200}, {254, 201}, {255, 201}, {256, 203}} {
		rows := Decompile(tapeOf([]int{x.i, 3, x.i}, l...))
		checkSize(t, rows[0], x.nodes)
		checkSize(t, rows[1], 4)
		checkSize(t, rows[2], x.nodes)
	}
}

func TestOptimize(t *testing.T) {
	x, v, time := do(api.Var, 0), do(api.Var, 1), do(api.Time)
	for _, y := range []struct{ c, want api.Tape }{
		{tapeOf([]int{0}, x), tapeOf([]int{0}, x)},
		{tapeOf([]int{2}, x, time, do(api.Sub, 0, 1)), tapeOf([]int{2}, x, time, do(api.Sub, 0, 1))},
		// Instructions that no output depends on.
		{tapeOf([]int{0}, time, x), tapeOf([]int{0}, time)},
		{tapeOf([]int{1}, time, x), tapeOf([]int{0}, x)},
		{tapeOf([]int{1, 3}, time, x, do(api.Neg, 0), v, do(api.Div, 1, 3)), tapeOf([]int{0, 1}, x, v)},
		{tapeOf([]int{4}, time, x, do(api.Neg, 1), do(api.Neg, 0), do(api.Sqr, 2), do(api.Sqr, 3)), tapeOf([]int{2}, x, do(api.Neg, 0), do(api.Sqr, 1))},
		// Equal instructions, and instructions whose operands are equal.
		{tapeOf([]int{2}, x, x, do(api.Mul, 0, 1)), tapeOf([]int{1}, x, do(api.Mul, 0, 0))},
		{tapeOf([]int{0, 1}, x, x), tapeOf([]int{0, 0}, x)},
		{tapeOf([]int{4}, x, x, do(api.Neg, 0), do(api.Neg, 1), do(api.Sub, 2, 3)), tapeOf([]int{2}, x, do(api.Neg, 0), do(api.Sub, 1, 1))},
		{tapeOf([]int{3, 4}, value(2, 2), value(2, 3), value(2, 2), do(api.Add, 0, 1), do(api.Add, 2, 1)), tapeOf([]int{2, 2}, value(2, 2), value(2, 3), do(api.Add, 0, 1))},
		{tapeOf([]int{6, 7}, x, v, do(api.Sub, 0, 1), v, x, do(api.Sub, 4, 3), do(api.Div, 2, 5), do(api.Div, 5, 2)), tapeOf([]int{3, 3}, x, v, do(api.Sub, 0, 1), do(api.Div, 2, 2))},
		// Instructions that are only alike.
		{tapeOf([]int{2, 3}, x, v, do(api.Sub, 0, 1), do(api.Sub, 1, 0)), tapeOf([]int{2, 3}, x, v, do(api.Sub, 0, 1), do(api.Sub, 1, 0))},
		{tapeOf([]int{2, 3}, x, v, do(api.Add, 0, 1), do(api.Add, 1, 0)), tapeOf([]int{2, 3}, x, v, do(api.Add, 0, 1), do(api.Add, 1, 0))},
		{tapeOf([]int{3}, x, do(api.Neg, 0), do(api.Neg, 1), do(api.Sub, 2, 0)), tapeOf([]int{3}, x, do(api.Neg, 0), do(api.Neg, 1), do(api.Sub, 2, 0))},
		{tapeOf([]int{2, 3}, x, do(api.Neg, 0), do(api.Sqr, 1), do(api.Mul, 1, 1)), tapeOf([]int{2, 3}, x, do(api.Neg, 0), do(api.Sqr, 1), do(api.Mul, 1, 1))},
		{tapeOf([]int{0, 1}, value(1, 1), value(1, 2)), tapeOf([]int{0, 1}, value(1, 1), value(1, 2))},
		// Another order: outputs from left to right, operands from left to right, and then the operation.
		{tapeOf([]int{1, 0}, x, v), tapeOf([]int{0, 1}, v, x)},
		{tapeOf([]int{2}, x, time, do(api.Sub, 1, 0)), tapeOf([]int{2}, time, x, do(api.Sub, 0, 1))},
		{tapeOf([]int{3, 2}, x, v, do(api.Neg, 0), do(api.Neg, 1)), tapeOf([]int{1, 3}, v, do(api.Neg, 0), x, do(api.Neg, 2))},
		{tapeOf([]int{5, 0}, x, time, v, do(api.Mul, 2, 1), do(api.Div, 0, 1), do(api.Sub, 3, 4)), tapeOf([]int{5, 3}, v, time, do(api.Mul, 0, 1), x, do(api.Div, 3, 1), do(api.Sub, 2, 4))},
		{tapeOf([]int{4, 1, 4, 2, 3, 0}, x, v, time, do(api.Sqrt, 0), do(api.Sub, 1, 3)), tapeOf([]int{3, 0, 3, 4, 2, 1}, v, x, do(api.Sqrt, 1), do(api.Sub, 0, 2), time)},
	} {
		if got := Optimize(y.c); !equalTapes(got, y.want) {
			t.Errorf("Optimize(%v) = %v, want %v", y.c, got, y.want)
		}
	}
}

// TestOptimizeLongTapes is about tapes with as many instructions as there may be,
// and with expressions that could not be emitted node by node.
func TestOptimizeLongTapes(t *testing.T) {
	for _, l := range [][]api.Instruction{times(400), doublings(399)} {
		for _, i := range []int{0, 1, 200, 398, 399} {
			want := tapeOf([]int{i, i, 0, i, 0, 0}, l[:i+1]...)
			if i < 399 {
				want.Out[5] = i / 2
			}
			c := api.Tape{N: 6, L: l, Out: want.Out}
			if got := Optimize(c); !equalTapes(got, want) {
				t.Errorf("Optimize returns %d instructions for %d", len(got.L), i+1)
			}
		}
	}
	// Two instructions for each doubling, of which one is used: either the latter of
	// them, or in turn.
	double := []api.Instruction{do(api.Var, 1), do(api.Var, 1)}
	for i := 0; i < 398; i += 2 {
		double = append(double, do(api.Add, i, i+1), do(api.Add, i+1, i))
	}
	want := tapeOf([]int{199, 199}, doublings(199)...)
	want.L[0] = do(api.Var, 1)
	for _, out := range [][]int{{398, 399}, {399, 398}, {399, 399}} {
		if got := Optimize(tapeOf(out, double...)); !equalTapes(got, want) {
			t.Errorf("Optimize returns %d instructions for the outputs %v", len(got.L), out)
		}
	}
	if got := Optimize(tapeOf([]int{399}, slices.Repeat(times(1), 400)...)); !equalTapes(got, tapeOf([]int{0}, do(api.Time))) {
		t.Errorf("Optimize of equal instructions = %v", got)
	}
}

// TestExample is about the example of the chapter.
func TestExample(t *testing.T) {
	s, _, _ := ode.Parse("x' = y * y\ny' = y * y + t")
	c := Compile(s)
	if want := tapeOf([]int{1, 3}, do(api.Var, 1), do(api.Mul, 0, 0), do(api.Time), do(api.Add, 1, 2)); !equalTapes(c, want) {
		t.Errorf("Compile = %v, want %v", c, want)
	}
	if got := Eval(c, []api.Interval{point(0), point(2 * one)}, point(one)); !slices.Equal(got, []api.Interval{point(4 * one), point(5 * one)}) {
		t.Errorf("Eval = %v", got)
	}
	if !Valid(c) || !equalRows(Decompile(c), s.F) || !equalTapes(Optimize(c), c) {
		t.Errorf("%v gives %v and %v", c, Decompile(c), Optimize(c))
	}
}

// oddTapes returns tapes that are not valid.
func oddTapes() []api.Tape {
	loop := []api.Instruction{do(api.Add, 1, 1), do(api.Add, 0, 0)}
	return []api.Tape{
		{}, {N: 1}, {N: math.MaxInt}, {N: math.MinInt, Out: []int{0}}, {N: 1, Out: []int{0}}, {N: 1, Out: []int{-1}}, {N: -1, L: times(1), Out: []int{0}}, {N: 1, L: times(1)}, {N: 3, L: times(1), Out: []int{0}}, {N: 7, L: times(1), Out: make([]int, 7)},
		tapeOf([]int{0, 1}, loop...), tapeOf([]int{0}, do(api.Neg, 0)), tapeOf([]int{0}, do(api.Div, -1, math.MaxInt)), tapeOf([]int{1}, do(api.Sqrt, 1), do(api.Sqr, 0)), tapeOf([]int{1}, do(api.Time)), tapeOf([]int{math.MinInt}, do(api.Time)),
		tapeOf([]int{0}, api.Instruction{}), tapeOf([]int{0}, do(11)), tapeOf([]int{0}, do(-1)), tapeOf([]int{0}, do(math.MaxInt)), tapeOf([]int{0}, do(api.Var, 1)), tapeOf([]int{0}, do(api.Var, -1)), tapeOf([]int{0}, do(api.Var, math.MaxInt)),
		tapeOf([]int{0}, value(1, 0)), tapeOf([]int{0}, value(math.MinInt64, math.MaxInt64)), tapeOf([]int{0}, times(401)...), tapeOf([]int{400}, doublings(400)...), tapeOf([]int{9999}, doublings(9999)...), tapeOf([]int{1}, do(api.Time), api.Instruction{Op: api.Neg, B: 7, C: point(1)}),
	}
}

// TestNothingPanics calls all functions with all kinds of arguments, those for
// which nothing else is specified among them.
func TestNothingPanics(t *testing.T) {
	boxes := [][]api.Interval{nil, {entire}, {between(1, 0)}, {entire, between(1, 0)}, {point(api.Max), between(5, 0)}, {between(math.MinInt64, math.MaxInt64), between(math.MaxInt64, math.MinInt64)}, make([]api.Interval, 7)}
	tapes := append(oddTapes(), tapeOf([]int{399}, doublings(399)...), tapeOf([]int{4, 3}, do(api.Var, 0), do(api.Var, 1), do(api.Div, 0, 1), do(api.Sqrt, 2), do(api.Mul, 3, 2)))
	for _, c := range tapes {
		Valid(c)
		Decompile(c)
		Optimize(c)
		for _, b := range boxes {
			Eval(c, b, point(0))
			Eval(c, b, between(math.MaxInt64, math.MinInt64))
		}
	}
	for _, e := range [][]api.Node{nil, {{}}, {{Op: 11}}, {{Op: -1}}, {{Op: api.Neg}}, {{Op: api.Add}, {Op: api.Time}}, {{Op: api.Time}, {Op: api.Time}}, variable(2), variable(-1), num(1, 0), different(201, 0), different(5000, 0)} {
		for _, s := range []api.System{{}, systemOf(e), systemOf(now(), e), {F: [][]api.Node{e}}, {Names: letters, F: slices.Repeat([][]api.Node{e}, 8)}, {Names: []string{"x", "x"}, F: [][]api.Node{e, e}}} {
			Compile(s)
		}
	}
}

// TestValidValues checks that values are valid intervals whatever valid intervals
// they come from: P3 of the document.
func TestValidValues(t *testing.T) {
	l := []api.Interval{entire, point(0), point(1), point(-1), point(largest), point(-largest), between(-largest, largest), between(-1, 1), between(0, largest), between(-one, 0), between(one, 4*one)}
	for _, x := range forms {
		if x.a != operand {
			continue
		}
		in := do(x.op, 0, 1)
		if x.b != operand {
			in.B = 0
		}
		for _, a := range l {
			for _, b := range l {
				got := Eval(tapeOf([]int{2, 2}, do(api.Var, 0), do(api.Var, 1), in), []api.Interval{a, b}, b)
				if len(got) != 2 || !Valid(tapeOf([]int{0}, value(got[0].Lo, got[0].Hi))) {
					t.Errorf("Eval of %v = %v for %v and %v", in, got, a, b)
				}
			}
		}
	}
}

// results are those of all functions for one system.
type results struct {
	valid       bool
	c, shortest api.Tape
	values      []api.Interval
	rows        [][]api.Node
}

// TestResultsDependOnArgumentsOnly calls the functions again after other calls: P2 of the document.
func TestResultsDependOnArgumentsOnly(t *testing.T) {
	box := []api.Interval{between(one, 2*one), point(5), point(7)}
	rows := [][]api.Node{join(api.Div, variable(1), variable(2)), join(api.Mul, join(api.Sqr, now()), join(api.Sqr, now())), join(api.Sqrt, join(api.Add, variable(0), num(3, 9)))}
	call := func() results {
		c := Compile(systemOf(rows...))
		return results{Valid(c), c, Optimize(c), Eval(c, box, point(one)), Decompile(c)}
	}
	first := call()
	Compile(systemOf(different(200, 0), different(200, 1000), different(200, 2000)))
	Optimize(tapeOf([]int{399}, doublings(399)...))
	Decompile(tapeOf([]int{399}, times(400)...))
	Eval(tapeOf([]int{0}, value(4, 4)), []api.Interval{entire}, entire)
	second := call()
	if first.valid != second.valid || !equalTapes(first.c, second.c) || !equalTapes(first.shortest, second.shortest) || !slices.Equal(first.values, second.values) || !equalRows(first.rows, second.rows) {
		t.Errorf("first %v, then %v", first, second)
	}
}

// overwrite changes all elements of a slice, and the room behind them.
func overwrite[T any](l []T, by T) {
	l = l[:cap(l)]
	for i := range l {
		l[i] = by
	}
}

// TestResultsAreNewMemory overwrites the results, with all the room behind them:
// neither the arguments nor the other results may change.
func TestResultsAreNewMemory(t *testing.T) {
	e := join(api.Sub, join(api.Neg, variable(0)), join(api.Mul, now(), constant(7)))
	s := systemOf(e, variable(1), e)
	c := Compile(s)
	before := api.Tape{N: c.N, L: slices.Clone(c.L), Out: slices.Clone(c.Out)}
	rows := Decompile(c)
	for i := range rows {
		want := slices.Clone(rows[(i+1)%3])
		overwrite(rows[i], api.Node{Op: 99, N: 99})
		if !slices.Equal(rows[(i+1)%3], want) {
			t.Errorf("expression %d changes with expression %d", (i+1)%3, i)
		}
	}
	overwrite(rows, nil)
	shortest := Optimize(c)
	overwrite(shortest.L, do(api.Time))
	overwrite(shortest.Out, 0)
	box := []api.Interval{point(1), point(2), point(3)}
	overwrite(Eval(c, box, point(4)), entire)
	if !slices.Equal(box, []api.Interval{point(1), point(2), point(3)}) {
		t.Errorf("the box is %v", box)
	}
	if !equalTapes(c, before) {
		t.Errorf("the tape is %v, and was %v", c, before)
	}
	overwrite(c.L, do(api.Time))
	overwrite(c.Out, 0)
	if !equalRows(s.F, [][]api.Node{e, variable(1), e}) || !slices.Equal(s.Names, []string{"a", "b", "c"}) || !slices.Equal(e, join(api.Sub, join(api.Neg, variable(0)), join(api.Mul, now(), constant(7)))) {
		t.Errorf("the system is %v", s)
	}
}

// TestImports checks that the package imports no other layers than interval and ode.
func TestImports(t *testing.T) {
	files, err := filepath.Glob("*.go")
	if err != nil || len(files) == 0 {
		t.Fatal("no files", err)
	}
	allowed := []string{`"armillary/api"`, `"armillary/interval"`, `"armillary/ode"`}
	for _, name := range files {
		if strings.HasSuffix(name, "_test.go") {
			continue
		}
		file, err := goparser.ParseFile(gotoken.NewFileSet(), name, nil, goparser.ImportsOnly)
		if err != nil {
			t.Fatal(err)
		}
		for _, spec := range file.Imports {
			if path := spec.Path.Value; strings.HasPrefix(path, `"armillary`) && !slices.Contains(allowed, path) {
				t.Errorf("%s imports %s", name, path)
			}
		}
	}
}
