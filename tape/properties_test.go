package tape

import (
	"math/rand"
	"slices"
	"strconv"
	"testing"

	"armillary/api"
	"armillary/ode"
)

// randomInterval returns a valid interval: any, of small numbers, a point, or entire.
func randomInterval(source *rand.Rand) api.Interval {
	bound := int64(1) << (1 + source.Intn(31))
	x, y := source.Int63n(2*bound-1)-bound+1, source.Int63n(2*bound-1)-bound+1
	switch source.Intn(8) {
	case 0:
		return entire
	case 1, 2:
		return point(x)
	case 3:
		return between(min(x, y), max(x, y))
	}
	x, y = source.Int63n(8*one)-4*one, source.Int63n(8*one)-4*one
	return between(min(x, y), max(x, y))
}

// randomBox returns a box of n intervals.
func randomBox(source *rand.Rand, n int) []api.Interval {
	var l []api.Interval
	for range n {
		l = append(l, randomInterval(source))
	}
	return l
}

// randomConstant returns one of a few intervals, or another one.
func randomConstant(source *rand.Rand) api.Interval {
	l := []api.Interval{point(one), point(2 * one), between(one, 2*one), point(0), entire}
	if i := source.Intn(len(l) + 1); i < len(l) {
		return l[i]
	}
	return randomInterval(source)
}

// randomExpr returns a valid expression of exactly the given number of nodes over
// n state variables.
func randomExpr(source *rand.Rand, nodes, n int) []api.Node {
	switch {
	case nodes == 1 && source.Intn(3) == 0:
		c := randomConstant(source)
		return num(c.Lo, c.Hi)
	case nodes == 1 && source.Intn(3) == 0:
		return now()
	case nodes == 1:
		return variable(source.Intn(n))
	case nodes == 2 || source.Intn(4) == 0:
		return join(api.Neg+source.Intn(3), randomExpr(source, nodes-1, n))
	case nodes%2 == 1 && source.Intn(3) == 0:
		e := randomExpr(source, nodes/2, n)
		return join(api.Add+source.Intn(4), e, e)
	}
	left := 1 + source.Intn(nodes-2)
	return join(api.Add+source.Intn(4), randomExpr(source, left, n), randomExpr(source, nodes-1-left, n))
}

// randomSystem returns a valid system with expressions of at most the given number
// of nodes, some of which are equal or part of others.
func randomSystem(source *rand.Rand, nodes int) api.System {
	var rows [][]api.Node
	n := 1 + source.Intn(api.MaxDim)
	for i := range n {
		e := randomExpr(source, 1+source.Intn(nodes), n)
		if i > 0 && source.Intn(3) == 0 {
			e = rows[source.Intn(i)]
		}
		for source.Intn(3) == 0 && len(e) > 1 {
			e = ode.Operands(e)[0]
		}
		rows = append(rows, e)
	}
	return systemOf(rows...)
}

// randomLeaf returns an instruction without operands.
func randomLeaf(source *rand.Rand, n int) api.Instruction {
	switch source.Intn(5) {
	case 0:
		return do(api.Time)
	case 1:
		return api.Instruction{Op: api.Num, C: randomConstant(source)}
	}
	return do(api.Var, source.Intn(n))
}

// randomInstruction returns an instruction that may be appended to a list in a tape
// of dimension n, and may be there already. Of 20 of them, as many as given have no
// operands.
func randomInstruction(source *rand.Rand, l []api.Instruction, n, leaves int) api.Instruction {
	earlier := func() int {
		if source.Intn(2) == 0 {
			return max(len(l)-1-source.Intn(3), 0)
		}
		return source.Intn(len(l))
	}
	switch i := source.Intn(20); {
	case i < leaves || len(l) == 0:
		return randomLeaf(source, n)
	case i < 9:
		return do(api.Neg+source.Intn(3), earlier())
	case i < 11:
		return l[earlier()]
	}
	return do(api.Add+source.Intn(4), earlier(), earlier())
}

// randomTape returns a valid tape of the given number of instructions.
func randomTape(source *rand.Rand, length int) api.Tape {
	c := api.Tape{N: 1 + source.Intn(api.MaxDim)}
	leaves := source.Intn(8)
	for range length {
		c.L = append(c.L, randomInstruction(source, c.L, c.N, leaves))
	}
	for range c.N {
		c.Out = append(c.Out, max(source.Intn(length), source.Intn(length)))
	}
	return c
}

// operandCount returns the number of operands of an operation.
func operandCount(op int) int {
	n := 0
	for _, use := range []int{forms[op-1].a, forms[op-1].b} {
		if use == operand {
			n++
		}
	}
	return n
}

// expanded returns the nodes of the expression of an instruction, or nil if there
// are more than a limit.
func expanded(l []api.Instruction, i, limit int) []api.Node {
	if limit == 0 {
		return nil
	}
	in := l[i]
	e := []api.Node{{Op: in.Op, C: in.C}}
	if in.Op == api.Var {
		e[0].N = in.A
	}
	for _, k := range []int{in.A, in.B}[:operandCount(in.Op)] {
		part := expanded(l, k, limit-len(e))
		if part == nil {
			return nil
		}
		e = append(e, part...)
	}
	return e
}

// rowsOf returns the expressions of a tape, with nil in place of those with more
// nodes than a limit.
func rowsOf(c api.Tape, limit int) [][]api.Node {
	var rows [][]api.Node
	for _, i := range c.Out {
		rows = append(rows, expanded(c.L, i, limit))
	}
	return rows
}

func missing(rows [][]api.Node) bool {
	return slices.ContainsFunc(rows, func(e []api.Node) bool { return e == nil })
}

// emit emits the expression with which e begins, node by node, and returns its
// index and the nodes behind it.
func emit(l *[]api.Instruction, e []api.Node) (int, []api.Node) {
	in, rest := api.Instruction{Op: e[0].Op, A: e[0].N, C: e[0].C}, e[1:]
	n := operandCount(in.Op)
	if n > 0 {
		in.A, rest = emit(l, rest)
	}
	if n > 1 {
		in.B, rest = emit(l, rest)
	}
	if i := slices.Index(*l, in); i >= 0 {
		return i, rest
	}
	*l = append(*l, in)
	return len(*l) - 1, rest
}

// emitted returns the tape of expressions, however long it is.
func emitted(rows [][]api.Node) api.Tape {
	c := api.Tape{N: len(rows)}
	for _, e := range rows {
		i, _ := emit(&c.L, e)
		c.Out = append(c.Out, i)
	}
	return c
}

// P8.1: the results for random systems and tapes are those of emitting nodes one by
// one to a list that is searched from its beginning.

func TestRandomSystems(t *testing.T) {
	source := rand.New(rand.NewSource(1))
	long, total := 0, 2000
	for i := range total {
		s := randomSystem(source, []int{1, 5, 30, 200}[i%4])
		if i%8 == 0 {
			s = systemOf(randomExpr(source, 200, 6), randomExpr(source, 199, 6), randomExpr(source, 200, 6), randomExpr(source, 198, 6), randomExpr(source, 200, 6), randomExpr(source, 200, 6))
		}
		want := emitted(s.F)
		if len(want.L) > 400 {
			long++
			want = api.Tape{}
		}
		if got := Compile(s); !equalTapes(got, want) {
			t.Fatalf("Compile(%v) = %v, want %v", s, got, want)
		}
	}
	if long < total/20 || long > total/4 {
		t.Errorf("%d of %d systems have too many instructions: these tests miss something", long, total)
	}
}

func TestRandomTapes(t *testing.T) {
	source := rand.New(rand.NewSource(2))
	large, shorter, total := 0, 0, 6000
	for i := range total {
		c := randomTape(source, 1+source.Intn([]int{3, 10, 50, 150}[i%4]))
		if !Valid(c) {
			t.Fatalf("Valid(%v) = false", c)
		}
		want := rowsOf(c, 200)
		if got := Decompile(c); !equalRows(got, want) || missing(got) != missing(want) {
			t.Fatalf("Decompile(%v) = %v, want %v", c, got, want)
		}
		if missing(want) {
			large++
		}
		if want = rowsOf(c, 20000); missing(want) {
			continue
		}
		shortest := emitted(want)
		if got := Optimize(c); !equalTapes(got, shortest) {
			t.Fatalf("Optimize(%v) = %v, want %v", c, got, shortest)
		}
		if len(shortest.L) < len(c.L) {
			shorter++
		}
	}
	if large < total/50 || shorter < total/10 {
		t.Errorf("of %d tapes, %d have large expressions, and %d become shorter: these tests miss something", total, large, shorter)
	}
}

// P8.2: compiled systems have the same values, as have optimized tapes, and larger
// boxes have larger values.

func TestValuesOfSystems(t *testing.T) {
	source := rand.New(rand.NewSource(3))
	bounded, none, total := 0, 0, 3000
	for i := range total {
		s := randomSystem(source, []int{2, 5, 30, 200}[i%4])
		c := Compile(s)
		if zero(c) {
			none++
			continue
		}
		for range 5 {
			x, time := randomBox(source, len(s.F)), randomInterval(source)
			want := ode.Derivatives(s, x, time)
			if got := Eval(c, x, time); !slices.Equal(got, want) {
				t.Fatalf("Eval(%v) = %v for %v and %v, want %v", c, got, x, time, want)
			}
			for _, a := range want {
				if a != entire {
					bounded++
				}
			}
		}
	}
	if bounded < total || none > total/10 {
		t.Errorf("%d values are bounded, %d of %d systems have no tape: these tests miss something", bounded, none, total)
	}
}

func TestValuesOfTapes(t *testing.T) {
	source := rand.New(rand.NewSource(4))
	bounded, total := 0, 5000
	for i := range total {
		c := randomTape(source, 1+source.Intn([]int{4, 10, 40, 400}[i%4]))
		shortest := Optimize(c)
		for range 3 {
			x, time := randomBox(source, c.N), randomInterval(source)
			got := Eval(c, x, time)
			if again := Eval(shortest, x, time); !slices.Equal(got, again) {
				t.Fatalf("Eval(%v) = %v for %v and %v, but %v for the optimized tape", c, got, x, time, again)
			}
			for k, e := range rowsOf(c, 200) {
				if e == nil {
					continue
				}
				if want := ode.Eval(e, x, time); got[k] != want {
					t.Fatalf("Eval(%v) = %v for %v and %v, want %v in place %d", c, got, x, time, want, k)
				}
				if got[k] != entire {
					bounded++
				}
			}
		}
	}
	if bounded < total {
		t.Errorf("%d values are bounded: these tests miss something", bounded)
	}
}

// widened returns an interval that contains another one.
func widened(source *rand.Rand, a api.Interval) api.Interval {
	switch source.Intn(6) {
	case 0, 1:
		return a
	case 2:
		return entire
	}
	by := between(source.Int63n(1<<source.Intn(20)), source.Int63n(1<<source.Intn(20)))
	if a == entire || a.Lo-by.Lo <= -api.Max || a.Hi+by.Hi >= api.Max {
		return entire
	}
	return between(a.Lo-by.Lo, a.Hi+by.Hi)
}

func TestIsotonicity(t *testing.T) {
	source := rand.New(rand.NewSource(5))
	bounded, strict, total := 0, 0, 10000
	for i := range total {
		c := randomTape(source, 1+source.Intn([]int{4, 8, 20, 40}[i%4]))
		x, time := randomBox(source, c.N), randomInterval(source)
		var y []api.Interval
		for _, a := range x {
			y = append(y, widened(source, a))
		}
		later := widened(source, time)
		got, larger := Eval(c, x, time), Eval(c, y, later)
		for k, a := range got {
			b := larger[k]
			if b.Lo > a.Lo || b.Hi < a.Hi {
				t.Fatalf("Eval(%v) = %v for %v and %v, but %v for %v and %v", c, got, x, time, larger, y, later)
			}
			if b != entire {
				bounded++
			}
			if b != entire && a != b {
				strict++
			}
		}
	}
	if bounded < total/2 || strict < total/10 {
		t.Errorf("%d values are bounded, %d are strictly larger: these tests miss something", bounded, strict)
	}
}

// P8.3: Decompile returns the expressions of a compiled system, and those of a tape
// compile to the optimized tape.

func TestRoundTripOfSystems(t *testing.T) {
	source := rand.New(rand.NewSource(6))
	none, total := 0, 3000
	for i := range total {
		s := randomSystem(source, []int{1, 5, 30, 200}[i%4])
		c := Compile(s)
		if zero(c) {
			none++
			continue
		}
		if got := Decompile(c); !equalRows(got, s.F) {
			t.Fatalf("%v becomes %v and %v", s, c, got)
		}
	}
	if none > total/10 {
		t.Errorf("%d of %d systems have no tape: these tests miss something", none, total)
	}
}

func TestRoundTripOfTapes(t *testing.T) {
	source := rand.New(rand.NewSource(7))
	checked, total := 0, 5000
	for i := range total {
		c := randomTape(source, 1+source.Intn([]int{3, 10, 20, 40}[i%4]))
		rows := Decompile(c)
		if missing(rows) {
			continue
		}
		checked++
		if got, want := Compile(systemOf(rows...)), Optimize(c); !equalTapes(got, want) {
			t.Fatalf("%v becomes %v and %v, want %v", c, rows, got, want)
		}
	}
	if checked < total/2 {
		t.Errorf("%d of %d tapes have small expressions: these tests miss something", checked, total)
	}
	// As many instructions as there may be, the last two of which are equal.
	want := Compile(systemOf(different(200, 0), different(199, 1000)))
	c := tapeOf([]int{199, 399}, append(slices.Clip(want.L), want.L[398])...)
	if got := Compile(systemOf(Decompile(c)...)); len(c.L) != 400 || !equalTapes(got, want) || !equalTapes(Optimize(c), want) {
		t.Errorf("%d instructions become %d, and %d by Optimize", len(c.L), len(got.L), len(Optimize(c).L))
	}
}

// P8.4: compiled and optimized tapes are valid, do not become shorter, and have no
// instructions that are equal or not used.

// used returns the instructions that the outputs of a tape depend on.
func used(c api.Tape) []bool {
	l := make([]bool, len(c.L))
	for _, i := range c.Out {
		l[i] = true
	}
	for i := len(l) - 1; i >= 0; i-- {
		for _, k := range []int{c.L[i].A, c.L[i].B}[:operandCount(c.L[i].Op)] {
			l[k] = l[k] || l[i]
		}
	}
	return l
}

// checkNormalForm checks a tape that is compiled or optimized.
func checkNormalForm(t *testing.T, c api.Tape) {
	t.Helper()
	if !Valid(c) {
		t.Fatalf("Valid(%v) = false", c)
	}
	if again := Optimize(c); !equalTapes(again, c) {
		t.Fatalf("Optimize(%v) = %v", c, again)
	}
	for i, in := range c.L {
		if slices.Contains(c.L[:i], in) {
			t.Fatalf("instruction %d of %v is not the first of its kind", i, c)
		}
	}
	if i := slices.Index(used(c), false); i >= 0 {
		t.Fatalf("instruction %d of %v is not used", i, c)
	}
	checkOrder(t, c)
}

// checkOrder checks that instructions are in the order in which they are needed.
func checkOrder(t *testing.T, c api.Tape) {
	t.Helper()
	next := 0
	var visit func(i int)
	visit = func(i int) {
		if i < next {
			return
		}
		for _, k := range []int{c.L[i].A, c.L[i].B}[:operandCount(c.L[i].Op)] {
			visit(k)
		}
		if i != next {
			t.Fatalf("instruction %d of %v is needed before instruction %d", i, c, next)
		}
		next++
	}
	for _, i := range c.Out {
		visit(i)
	}
}

// same reports whether instructions of two tapes have the same expression. It keeps
// what it knows of pairs of them, as the expressions may be too large to be visited.
func same(c, d []api.Instruction, known map[[2]int]bool, i, j int) bool {
	pair := [2]int{i, j}
	if answer, ok := known[pair]; ok {
		return answer
	}
	a, b := c[i], d[j]
	answer := a.Op == b.Op && a.C == b.C
	switch {
	case !answer:
	case a.Op == api.Var:
		answer = a.A == b.A
	case operandCount(a.Op) == 1:
		answer = same(c, d, known, a.A, b.A)
	case operandCount(a.Op) == 2:
		answer = same(c, d, known, a.A, b.A) && same(c, d, known, a.B, b.B)
	}
	known[pair] = answer
	return answer
}

func TestNormalFormOfSystems(t *testing.T) {
	source := rand.New(rand.NewSource(8))
	for i := range 2000 {
		if c := Compile(randomSystem(source, []int{1, 5, 30, 200}[i%4])); !zero(c) {
			checkNormalForm(t, c)
		}
	}
	checkNormalForm(t, Compile(systemOf(different(200, 0), different(200, 1000))))
	checkNormalForm(t, Compile(systemOf(slices.Repeat([][]api.Node{different(200, 0)}, 6)...)))
}

// TestNormalFormOfTapes is also about the expressions that are too large for P8.1
// above: together with their order, they leave only one tape.
func TestNormalFormOfTapes(t *testing.T) {
	source := rand.New(rand.NewSource(9))
	for i := range 2000 {
		c := randomTape(source, 1+source.Intn([]int{3, 20, 100, 400}[i%4]))
		d := Optimize(c)
		checkNormalForm(t, d)
		if d.N != c.N || len(d.Out) != len(c.Out) || len(d.L) > len(c.L) {
			t.Fatalf("%v becomes %v", c, d)
		}
		known := map[[2]int]bool{}
		for k := range c.Out {
			if !same(c.L, d.L, known, c.Out[k], d.Out[k]) {
				t.Fatalf("%v becomes %v with another expression in place %d", c, d, k)
			}
		}
	}
	for _, l := range [][]api.Instruction{doublings(399), times(400), append(doublings(198), doublings(200)...)} {
		checkNormalForm(t, Optimize(tapeOf([]int{len(l) - 1, 100, 300}, l...)))
	}
}

// P8.5: equal subexpressions are computed once.

// textOf returns a text that only equal expressions share.
func textOf(e []api.Node) string {
	text := ""
	for _, node := range e {
		text += strconv.Itoa(node.Op) + " " + strconv.Itoa(node.N) + " " + strconv.FormatInt(node.C.Lo, 10) + " " + strconv.FormatInt(node.C.Hi, 10) + ";"
	}
	return text
}

// parts adds the texts of all subexpressions of an expression to a set.
func parts(set map[string]bool, e []api.Node) {
	set[textOf(e)] = true
	for _, operand := range ode.Operands(e) {
		parts(set, operand)
	}
}

func TestOneInstructionPerSubexpression(t *testing.T) {
	source := rand.New(rand.NewSource(10))
	long, repeated := 0, 0
	for i := range 1000 {
		s := randomSystem(source, []int{1, 5, 30, 200}[i%4])
		c, set, nodes := Compile(s), map[string]bool{}, 0
		for _, e := range s.F {
			parts(set, e)
			nodes += len(e)
		}
		if len(set) > 400 {
			long++
			set = nil
		}
		if len(c.L) != len(set) {
			t.Fatalf("Compile(%v) has %d instructions for %d subexpressions", s, len(c.L), len(set))
		}
		if len(set) < nodes {
			repeated++
		}
		for j, e := range s.F {
			for k, f := range s.F {
				if !zero(c) && (c.Out[j] == c.Out[k]) != slices.Equal(e, f) {
					t.Fatalf("Compile(%v) has the indices %v", s, c.Out)
				}
			}
		}
	}
	if long > 100 || repeated < 300 {
		t.Errorf("%d systems have no tape, %d have equal subexpressions: these tests miss something", long, repeated)
	}
}

// TestRepeatedSubexpressions repeats a subexpression in a row of its own, at any
// place, and as both operands of an operation.
func TestRepeatedSubexpressions(t *testing.T) {
	source := rand.New(rand.NewSource(11))
	for i := range 1000 {
		n := 1 + source.Intn(5)
		var rows [][]api.Node
		for range n {
			rows = append(rows, randomExpr(source, 1+source.Intn([]int{5, 60}[i%2]), n))
		}
		c := Compile(systemOf(rows...))
		part := rows[source.Intn(n)]
		for len(part) > 1 && source.Intn(3) > 0 {
			l := ode.Operands(part)
			part = l[source.Intn(len(l))]
		}
		if got := Compile(systemOf(append(slices.Clip(rows), part)...)); !slices.Equal(got.L, c.L) || !slices.Equal(got.Out[:n], c.Out) {
			t.Fatalf("%v becomes %v with %v", c, got, part)
		}
		for k := range n {
			got := Compile(systemOf(slices.Insert(slices.Clone(rows), k, part)...))
			if len(got.L) != len(c.L) || !slices.Equal(expanded(got.L, got.Out[k], 200), part) {
				t.Fatalf("%v becomes %v with %v in place %d", c, got, part, k)
			}
		}
		twice := join(api.Div, part, part)
		got := Compile(systemOf(append(slices.Clip(rows), twice)...))
		in := got.L[got.Out[n]]
		if len(got.L) > len(c.L)+1 || in.Op != api.Div || in.A != in.B || !slices.Equal(got.L[:len(c.L)], c.L) {
			t.Fatalf("%v becomes %v with %v", c, got, twice)
		}
	}
}
