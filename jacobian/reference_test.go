package jacobian

import (
	"math/rand"
	"slices"
	"testing"

	"armillary/api"
	"armillary/interval"
	"armillary/ode"
)

// P10.1: the results for random expressions are those of a reference that writes the
// table of rules down, and the derivatives as they are defined, before it simplifies
// them.

// rule is a row of the table for operands l.
type rule struct {
	applies func(l [][]api.Node) bool
	result  func(l [][]api.Node) []api.Node
}

func isConstant(e []api.Node, x int64) bool { return slices.Equal(e, constant(x)) }

func isPointNum(e []api.Node) bool {
	return e[0].Op == api.Num && e[0].C.Lo == e[0].C.Hi
}

// operandIs returns whether operand i is the number x.
func operandIs(i int, x int64) func(l [][]api.Node) bool {
	return func(l [][]api.Node) bool { return isConstant(l[i], x) }
}

// operandOf returns operand i.
func operandOf(i int) func(l [][]api.Node) []api.Node {
	return func(l [][]api.Node) []api.Node { return l[i] }
}

// onPoints returns the rule that computes the result of an operation on points.
func onPoints(f func(a, b api.Interval) api.Interval) rule {
	return rule{
		func(l [][]api.Node) bool {
			return isPointNum(l[0]) && isPointNum(l[1]) && isPointNum(num(f(l[0][0].C, l[1][0].C)))
		},
		func(l [][]api.Node) []api.Node { return num(f(l[0][0].C, l[1][0].C)) },
	}
}

// table returns the rules of each operation.
func table() map[int][]rule {
	zeroOrOne := []rule{{operandIs(0, 0), operandOf(0)}, {operandIs(0, one), operandOf(0)}}
	return map[int][]rule{
		api.Neg: {
			{func(l [][]api.Node) bool { return isPointNum(l[0]) }, func(l [][]api.Node) []api.Node { return constant(-l[0][0].C.Lo) }},
			{func(l [][]api.Node) bool { return l[0][0].Op == api.Neg }, func(l [][]api.Node) []api.Node { return l[0][1:] }},
		},
		api.Sqr:  zeroOrOne,
		api.Sqrt: zeroOrOne,
		api.Add:  {{operandIs(0, 0), operandOf(1)}, {operandIs(1, 0), operandOf(0)}, onPoints(interval.Add)},
		api.Sub: {
			{operandIs(1, 0), operandOf(0)},
			{operandIs(0, 0), func(l [][]api.Node) []api.Node { return referenceSimplify(join(api.Neg, l[1])) }},
			onPoints(interval.Sub),
		},
		api.Mul: {{operandIs(0, 0), operandOf(0)}, {operandIs(1, 0), operandOf(1)}, {operandIs(0, one), operandOf(1)}, {operandIs(1, one), operandOf(0)}, onPoints(interval.Mul)},
		api.Div: {{operandIs(0, 0), operandOf(0)}, {operandIs(1, one), operandOf(0)}},
	}
}

func referenceSimplify(e []api.Node) []api.Node {
	l := ode.Operands(e)
	for i := range l {
		l[i] = referenceSimplify(l[i])
	}
	for _, r := range table()[e[0].Op] {
		if r.applies(l) {
			return r.result(l)
		}
	}
	return append(e[:1:1], slices.Concat(l...)...)
}

// referenceD returns the derivative by a variable or the time before it is simplified.
func referenceD(e []api.Node, by []api.Node) []api.Node {
	l, d := ode.Operands(e), [][]api.Node(nil)
	for _, operand := range l {
		d = append(d, referenceD(operand, by))
	}
	two := constant(2 * one)
	switch e[0].Op {
	case api.Neg:
		return join(api.Neg, d[0])
	case api.Add, api.Sub:
		return join(e[0].Op, d[0], d[1])
	case api.Mul:
		return join(api.Add, join(api.Mul, d[0], l[1]), join(api.Mul, l[0], d[1]))
	case api.Div:
		return join(api.Div, join(api.Sub, join(api.Mul, d[0], l[1]), join(api.Mul, l[0], d[1])), join(api.Sqr, l[1]))
	case api.Sqr:
		return join(api.Mul, join(api.Mul, two, l[0]), d[0])
	case api.Sqrt:
		return join(api.Div, d[0], join(api.Mul, two, join(api.Sqrt, l[0])))
	}
	if slices.Equal(e, by) {
		return constant(one)
	}
	return constant(0)
}

func referenceDiff(e []api.Node, by []api.Node) []api.Node {
	return referenceSimplify(referenceD(e, by))
}

// referenceEval returns the value of an expression of any length.
func referenceEval(e []api.Node, x []api.Interval, time api.Interval) api.Interval {
	// Behind the last operand stands the root, so from the right to the left all
	// operands are known before the root is read.
	var stack []api.Interval
	pop := func() api.Interval {
		a := stack[len(stack)-1]
		stack = stack[:len(stack)-1]
		return a
	}
	for _, node := range slices.Backward(e) {
		switch node.Op {
		case api.Num:
			stack = append(stack, node.C)
		case api.Var:
			stack = append(stack, x[node.N])
		case api.Time:
			stack = append(stack, time)
		case api.Neg:
			stack = append(stack, interval.Neg(pop()))
		case api.Sqr:
			stack = append(stack, interval.Square(pop()))
		case api.Sqrt:
			a := pop()
			if root, _ := interval.Sqrt(a); a.Lo >= 0 {
				stack = append(stack, root)
			} else {
				stack = append(stack, entire)
			}
		default:
			a := pop()
			f := map[int]func(a, b api.Interval) api.Interval{api.Add: interval.Add, api.Sub: interval.Sub, api.Mul: interval.Mul, api.Div: interval.Div}[node.Op]
			stack = append(stack, f(a, pop()))
		}
	}
	return pop()
}

// randomInterval returns a valid interval: of small numbers mostly, or any.
func randomInterval(source *rand.Rand) api.Interval {
	bound := int64(4 * one)
	switch source.Intn(20) {
	case 0:
		return entire
	case 1:
		bound = largest
	case 2:
		return whole(1, 1+source.Int63n(3))
	}
	x, y := source.Int63n(2*bound)-bound, source.Int63n(2*bound)-bound
	switch source.Intn(4) {
	case 0:
		y = x
	case 1:
		y = min(x+source.Int63n(one/8), largest)
	case 2:
		x, y = max(x, -x), max(y, -y)
	}
	return between(min(x, y), max(x, y))
}

// randomLeaf returns an expression of one node over n state variables: the numbers 0
// and 1 often, for which there are most rules.
func randomLeaf(source *rand.Rand, n int) []api.Node {
	switch source.Intn(12) {
	case 0:
		return constant(0)
	case 1:
		return constant(one)
	case 2:
		return constant([]int64{2 * one, -one, one / 2, 3, -5 * one, 300 * one, largest}[source.Intn(7)])
	case 3:
		return num(randomInterval(source))
	case 4, 5:
		return now()
	}
	return variable(source.Intn(n))
}

// randomExpr returns a valid expression of exactly the given number of nodes over n
// state variables.
func randomExpr(source *rand.Rand, nodes, n int) []api.Node {
	if nodes == 1 {
		return randomLeaf(source, n)
	}
	if nodes == 2 || source.Intn(4) == 0 {
		return join(api.Neg+source.Intn(3), randomExpr(source, nodes-1, n))
	}
	left := 1 + source.Intn(nodes-2)
	return join(api.Add+source.Intn(4), randomExpr(source, left, n), randomExpr(source, nodes-1-left, n))
}

// randomSystem returns a valid system with expressions of at most the given number of nodes.
func randomSystem(source *rand.Rand, nodes int) api.System {
	n := 1 + source.Intn(api.MaxDim)
	s := api.System{Names: []string{"a", "b", "c", "d", "e", "f"}[:n]}
	for range n {
		s.F = append(s.F, randomExpr(source, 1+source.Intn(nodes), n))
	}
	return s
}

func randomBox(source *rand.Rand, n int) []api.Interval {
	var x []api.Interval
	for range n {
		x = append(x, randomInterval(source))
	}
	return x
}

func TestRandomSimplifications(t *testing.T) {
	source := rand.New(rand.NewSource(1))
	shorter := 0
	for i := range 40000 {
		e := randomExpr(source, 1+source.Intn([]int{3, 6, 20, 50}[i%4]), 3)
		got, want := Simplify(e), referenceSimplify(e)
		if !slices.Equal(got, want) {
			t.Fatalf("Simplify(%q) = %q, want %q", text(e), text(got), text(want))
		}
		if len(got) < len(e) {
			shorter++
		}
	}
	if shorter < 10000 || shorter > 35000 {
		t.Errorf("%d expressions become shorter: these tests miss something", shorter)
	}
}

func TestRandomDerivatives(t *testing.T) {
	source := rand.New(rand.NewSource(2))
	zeros, long := 0, 0
	for i := range 3000 {
		nodes := 1 + source.Intn([]int{3, 6, 20, 50}[i%4])
		if i%200 == 0 {
			nodes = 200
		}
		e := randomExpr(source, nodes, 6)
		for j := range 6 {
			got, want := Diff(e, j), referenceDiff(e, variable(j))
			if !slices.Equal(got, want) {
				t.Fatalf("Diff(%v, %d) = %v, want %v", e, j, got, want)
			}
			if isConstant(got, 0) {
				zeros++
			}
			if len(got) > 200 {
				long++
			}
		}
		if got, want := TimeDerivative(e), referenceDiff(e, now()); !slices.Equal(got, want) {
			t.Fatalf("TimeDerivative(%v) = %v, want %v", e, got, want)
		}
	}
	if zeros < 3000 || zeros > 15000 || long < 50 {
		t.Errorf("%d derivatives are zero, %d are long: these tests miss something", zeros, long)
	}
}

// referenceRate returns what LieDerivative should return, and what it would without
// skipping anything.
func referenceRate(s api.System, g []api.Node, x []api.Interval, time api.Interval) (api.Interval, api.Interval) {
	rate := referenceEval(referenceDiff(g, now()), x, time)
	unskipped := rate
	for i, f := range s.F {
		d := referenceDiff(g, variable(i))
		product := interval.Mul(referenceEval(d, x, time), referenceEval(f, x, time))
		unskipped = interval.Add(unskipped, product)
		if !isConstant(d, 0) {
			rate = interval.Add(rate, product)
		}
	}
	return rate, unskipped
}

func TestRandomSystems(t *testing.T) {
	source := rand.New(rand.NewSource(3))
	bounded, skipped, total := 0, 0, 0
	for i := range 2000 {
		s := randomSystem(source, []int{2, 4, 8, 30}[i%4])
		if i%100 == 0 {
			s.F[0] = randomExpr(source, 200, len(s.F))
		}
		n := len(s.F)
		x, time, g := randomBox(source, n), randomInterval(source), randomExpr(source, 1+source.Intn(12), n)
		var want [][]api.Interval
		for _, f := range s.F {
			var row []api.Interval
			for j := range n {
				row = append(row, referenceEval(referenceDiff(f, variable(j)), x, time))
				total++
				if row[j] != entire && row[j] != point(0) {
					bounded++
				}
			}
			want = append(want, row)
		}
		if got := Matrix(s, x, time); !equalMatrices(got, want) {
			t.Fatalf("Matrix(%v, %v, %v) = %v, want %v", s, x, time, got, want)
		}
		rate, unskipped := referenceRate(s, g, x, time)
		if rate != unskipped {
			skipped++
		}
		if got := LieDerivative(s, g, x, time); got != rate {
			t.Fatalf("LieDerivative(%v, %v, %v, %v) = %v, want %v", s, g, x, time, got, rate)
		}
	}
	if bounded < total/20 || skipped < 50 {
		t.Errorf("%d of %d derivatives are bounded and not zero, and skipping matters %d times: these tests miss something", bounded, total, skipped)
	}
}
