package ode

import (
	"maps"
	"math/big"
	"math/rand"
	"regexp"
	"slices"
	"strings"
	"testing"

	"armillary/api"
	"armillary/fixed"
)

// randomNumber returns a number of any length.
func randomNumber(source *rand.Rand) int64 {
	x := source.Int63n(1 << (1 + source.Intn(31)))
	if source.Intn(2) == 0 {
		return -x
	}
	return x
}

// randomInterval returns a valid interval: any, of small numbers, a point, or entire.
func randomInterval(source *rand.Rand) api.Interval {
	x, y := randomNumber(source), randomNumber(source)
	switch source.Intn(6) {
	case 0:
		return entire
	case 1, 2:
		return point(x)
	case 3:
		return between(min(x, y), max(x, y))
	}
	x, y = source.Int63n(8*one)-4*one, source.Int63n(8*one)-4*one
	return between(min(x, y), max(x, y))
}

// randomExpr returns a valid expression of exactly the given number of nodes over
// n state variables.
func randomExpr(source *rand.Rand, nodes, n int) []api.Node {
	if nodes == 1 {
		switch i := source.Intn(n + 2); i {
		case n:
			return now()
		case n + 1:
			a := randomInterval(source)
			return num(a.Lo, a.Hi)
		default:
			return variable(i)
		}
	}
	if nodes == 2 || source.Intn(4) == 0 {
		return join(api.Neg+source.Intn(3), randomExpr(source, nodes-1, n))
	}
	left := 1 + source.Intn(nodes-2)
	return join(api.Add+source.Intn(4), randomExpr(source, left, n), randomExpr(source, nodes-1-left, n))
}

// randomName returns a valid name of any length.
func randomName(source *rand.Rand) string {
	const alphabet = "abcdefghijklmnopqrstuvwxyz0123456789"
	name := []byte{alphabet[source.Intn(26)]}
	for range source.Intn(api.MaxName) {
		name = append(name, alphabet[source.Intn(len(alphabet))])
	}
	if slices.Contains([]string{"t", "sqr", "sqrt", "all"}, string(name)) {
		return randomName(source)
	}
	return string(name)
}

// randomNames returns the given number of distinct names.
func randomNames(source *rand.Rand, n int) []string {
	var l []string
	for len(l) < n {
		if name := randomName(source); !slices.Contains(l, name) {
			l = append(l, name)
		}
	}
	return l
}

// randomSystem returns a valid system with expressions of at most the given number of nodes.
func randomSystem(source *rand.Rand, nodes int) api.System {
	s := api.System{Names: randomNames(source, 1+source.Intn(api.MaxDim))}
	for range s.Names {
		s.F = append(s.F, randomExpr(source, 1+source.Intn(nodes), len(s.Names)))
	}
	return s
}

// largestSystem returns a system of as many expressions and nodes as there may be.
func largestSystem(source *rand.Rand) api.System {
	s := api.System{Names: randomNames(source, api.MaxDim)}
	for range s.Names {
		s.F = append(s.F, randomExpr(source, api.MaxNodes, api.MaxDim))
	}
	return s
}

// blank returns spaces, mostly none.
func blank(source *rand.Rand) string {
	return []string{"", "", "", " ", "  ", "\t", "\r", " \t\r "}[source.Intn(8)]
}

// leaf returns the text of an expression of one node.
func leaf(node api.Node, names []string) string {
	switch {
	case node.Op == api.Var:
		return names[node.N]
	case node.Op == api.Time:
		return "t"
	case node.C == entire:
		return "all"
	case node.C.Lo == node.C.Hi && node.C.Lo >= 0:
		return fixed.Format(node.C.Lo)
	}
	return "[" + fixed.Format(node.C.Lo) + "," + fixed.Format(node.C.Hi) + "]"
}

// written returns an expression as the grammar makes it readable with as few
// parentheses as it can, and sometimes a few more and spaces. The level is 1 for a
// sum, 2 for a product and 3 for a factor.
func written(source *rand.Rand, e []api.Node, names []string, level int) string {
	l := Operands(e)
	part := func(i, level int) string { return blank(source) + written(source, l[i], names, level) + blank(source) }
	text, own := "", 3
	switch op := e[0].Op; op {
	case api.Neg:
		text = "-" + part(0, 3)
	case api.Sqr:
		text = "sqr" + blank(source) + "(" + part(0, 1) + ")"
	case api.Sqrt:
		text = "sqrt" + blank(source) + "(" + part(0, 1) + ")"
	case api.Add, api.Sub:
		own = 1
		text = part(0, 1) + map[int]string{api.Add: "+", api.Sub: "-"}[op] + part(1, 2)
	case api.Mul, api.Div:
		own = 2
		text = part(0, 2) + map[int]string{api.Mul: "*", api.Div: "/"}[op] + part(1, 3)
	default:
		text = leaf(e[0], names)
	}
	if own < level || source.Intn(10) == 0 {
		return "(" + blank(source) + text + blank(source) + ")"
	}
	return text
}

// writtenSystem returns the text of a system, with blank lines.
func writtenSystem(source *rand.Rand, s api.System) string {
	breaks := func(least int) string {
		text := strings.Repeat("\n"+blank(source), least)
		for source.Intn(4) == 0 {
			text += blank(source) + "\n"
		}
		return text
	}
	text := breaks(0)
	for i, e := range s.F {
		text += blank(source) + s.Names[i] + blank(source) + "'" + blank(source) + "=" + blank(source) + written(source, e, s.Names, 1)
		if i+1 < len(s.F) {
			text += breaks(1)
		}
	}
	return text + breaks(0)
}

// P7.1: the results for texts of all kinds are those of a description of the
// grammar by states, the tokens of a regular expression, and exact rationals.

var tokenPattern = regexp.MustCompile(`^[ \t\r]*([a-z][a-z0-9]*|[0-9]+(?:\.[0-9]+)?|[-+*/()\[\],='\n])`)

// kindOf returns the kind of a token in the following table.
func kindOf(text string) string {
	switch {
	case text == "sqr" || text == "sqrt":
		return "function"
	case text == "t" || text == "all":
		return "constant"
	case text[0] >= 'a' && text[0] <= 'z':
		return "name"
	case text[0] >= '0' && text[0] <= '9':
		return "number"
	}
	return text
}

// transitions gives, for each state, the state behind each kind of token that is allowed.
var transitions = map[string]map[string]string{
	"start":    {"\n": "start", "name": "quote"},
	"line":     {"\n": "line", "name": "quote"},
	"quote":    {"'": "equals"},
	"equals":   {"=": "operand"},
	"operand":  {"-": "operand", "number": "operator", "constant": "operator", "name": "operator", "(": "operand", "function": "argument", "[": "low"},
	"argument": {"(": "operand"},
	"operator": {"+": "operand", "-": "operand", "*": "operand", "/": "operand", ")": "operator", "\n": "line"},
	"low":      {"-": "lower", "number": "comma"},
	"lower":    {"number": "comma"},
	"comma":    {",": "high"},
	"high":     {"-": "higher", "number": "bracket"},
	"higher":   {"number": "bracket"},
	"bracket":  {"]": "operator"},
}

// description is what a text amounts to.
type description struct {
	known    []string // names that are known before the text
	heads    []string
	headsAt  []int
	uses     []string
	usesAt   []int
	nodes    []int // of each expression
	low      *big.Int
	excess   bool
	negative bool
}

// rounded returns a decimal number in units, rounded down or up.
func rounded(text string, negative, up bool) *big.Int {
	r, _ := new(big.Rat).SetString(text)
	if negative {
		r.Neg(r)
	}
	r.Mul(r, big.NewRat(one, 1))
	q, m := new(big.Int).DivMod(r.Num(), r.Denom(), new(big.Int))
	if up && m.Sign() > 0 {
		q.Add(q, big.NewInt(1))
	}
	return q
}

// note takes note of a token that is allowed in a state.
func (d *description) note(state, text string, at int) {
	kind := kindOf(text)
	switch state {
	case "start", "line":
		if kind == "name" {
			d.heads, d.headsAt, d.nodes = append(d.heads, text), append(d.headsAt, at), append(d.nodes, 0)
			d.excess = d.excess || len(text) > 12
		}
	case "operand":
		if kind == "name" {
			d.uses, d.usesAt = append(d.uses, text), append(d.usesAt, at)
		}
		if kind != "(" {
			d.nodes[len(d.nodes)-1]++
		}
		if kind == "number" {
			d.number(rounded(text, false, true))
		}
	case "operator":
		if strings.Contains("+-*/", kind) {
			d.nodes[len(d.nodes)-1]++
		}
	case "low", "high":
		d.negative = kind == "-"
		if kind == "number" {
			d.bound(state, text)
		}
	case "lower", "higher":
		d.bound(state, text)
	}
}

func (d *description) number(n *big.Int) {
	d.excess = d.excess || n.CmpAbs(big.NewInt(api.Max)) >= 0
}

// bound takes note of a number in brackets.
func (d *description) bound(state, text string) {
	if strings.HasPrefix(state, "low") {
		d.low = rounded(text, d.negative, false)
		d.number(rounded(text, false, true))
		return
	}
	high := rounded(text, d.negative, true)
	d.number(rounded(text, false, true))
	d.excess = d.excess || d.low.Cmp(high) > 0
}

// nameError returns the offset of the leftmost name that is repeated or not known, or -1.
func (d *description) nameError() int {
	at := -1
	for i, name := range d.heads {
		if slices.Contains(d.heads[:i], name) {
			at = d.headsAt[i]
			break
		}
	}
	for i, name := range d.uses {
		if !slices.Contains(d.heads, name) && !slices.Contains(d.known, name) && (at < 0 || d.usesAt[i] < at) {
			return d.usesAt[i]
		}
	}
	return at
}

// expected returns the offset and the error for the text of a system, or that of
// an expression over state variables with the given names.
func expected(text string, system bool, names []string) (int, api.Errno) {
	if len(text) > 8000 {
		return 0, api.ErrBig
	}
	state, depth, d := "start", 0, description{known: names}
	if !system {
		state, d.nodes = "operand", []int{0}
	}
	at := 0
	for {
		rest := strings.TrimLeft(text[at:], " \t\r")
		at = len(text) - len(rest)
		if rest == "" {
			break
		}
		match := tokenPattern.FindStringSubmatch(rest)
		if match == nil {
			return at, api.ErrToken
		}
		kind := kindOf(match[1])
		next, allowed := transitions[state][kind]
		if !allowed || kind == ")" && depth == 0 || kind == "\n" && (depth > 0 || !system) {
			return at, api.ErrToken
		}
		d.note(state, match[1], at)
		depth += map[string]int{"(": 1, ")": -1}[kind]
		state, at = next, at+len(match[1])
	}
	if !(state == "operator" && depth == 0 || state == "line") {
		return len(text), api.ErrEnd
	}
	if at := d.nameError(); at >= 0 {
		return at, api.ErrName
	}
	if d.excess || len(d.heads) > 6 || slices.Max(d.nodes) > 200 {
		return 0, api.ErrBig
	}
	return 0, api.OK
}

// tokens are texts to make others of.
var tokens = []string{
	"x", "v", "w", "x1", "t", "all", "sqr", "sqrt", "sqr(", "abcdefghijklm", "0", "1", "2.5", "0.1", "0.09999", "40000", "32767.99999", ".", "1.", "[1,2]", "[-1,", "[2,-1]", "[-40000,40000]", "[0.1,0.10001]",
	"+", "-", "*", "/", "(", ")", "[", "]", ",", "=", "'", "\n", " ", "\t", "\r", "X", "_", "\xff", "é", "x' = ", "\nv' = ", "\nx'=", "(x+v)", "-1", "+x", "*t",
}

// soup returns a text of random tokens.
func soup(source *rand.Rand) string {
	text := ""
	for range source.Intn(12) {
		text += tokens[source.Intn(len(tokens))] + blank(source)
	}
	return text
}

// damaged returns a text with a few changes.
func damaged(source *rand.Rand, text string) string {
	for range source.Intn(3) {
		i := source.Intn(len(text) + 1)
		j := min(i+source.Intn(3), len(text))
		text = text[:i] + []string{"", tokens[source.Intn(len(tokens))]}[source.Intn(2)] + text[j:]
	}
	return text
}

func TestRandomTexts(t *testing.T) {
	source := rand.New(rand.NewSource(1))
	counts := map[string]int{}
	check := func(text string, system bool, names []string) {
		offset, code := expected(text, system, names)
		counts[[]string{"expression ", "system "}[map[bool]int{true: 1}[system]]+code.Error()]++
		if system {
			s, at, err := Parse(text)
			if at != offset || err != code || empty(s) != (code != api.OK) || code == api.OK && !Valid(s) {
				t.Fatalf("Parse(%q) = %v, %d, %d, want %d, %d", text, s, at, err, offset, code)
			}
			return
		}
		e, at, err := ParseExpr(text, names)
		if at != offset || err != code || (len(e) == 0) != (code != api.OK) || code == api.OK && !ValidExpr(e, len(names)) {
			t.Fatalf("ParseExpr(%q) = %v, %d, %d, want %d, %d", text, e, at, err, offset, code)
		}
	}
	some := []string{"x", "v"}
	for i := range 10000 {
		s := randomSystem(source, 1+source.Intn(12))
		if i%2 == 0 {
			s.Names = []string{"x", "v", "w", "x1", "a", "b"}[:len(s.Names)]
		}
		check(damaged(source, writtenSystem(source, s)), true, nil)
		check("x' = "+soup(source), true, nil)
		check(soup(source), true, nil)
		check(damaged(source, written(source, randomExpr(source, 1+source.Intn(20), 2), some, 1)), false, some)
		check(soup(source), false, some)
		if i%50 == 0 {
			check(writtenSystem(source, randomSystem(source, 200)), true, nil)
			check(written(source, randomExpr(source, 190+source.Intn(20), 2), some, 1), false, some)
		}
	}
	if len(counts) != 10 || slices.Min(slices.Collect(maps.Values(counts))) < 100 {
		t.Errorf("the results are %v: these tests miss something", counts)
	}
}

// P7.2: Parse inverts Format, and ParseExpr inverts FormatExpr.

func TestRoundTrip(t *testing.T) {
	source := rand.New(rand.NewSource(2))
	long, total := 0, 3000
	for i := range total {
		s := randomSystem(source, []int{1, 5, 30, 200}[i%4])
		if i%16 == 0 {
			s = largestSystem(source)
		}
		text := Format(s)
		got, at, err := Parse(text)
		if len(text) > api.MaxText {
			long++
			if !empty(got) || at != 0 || err != api.ErrBig {
				t.Errorf("a text of %d bytes gives %v, %d, %d", len(text), got, at, err)
			}
		} else if !equalSystems(got, s) || at != 0 || err != api.OK {
			t.Errorf("%v becomes %q and %v, %d, %d", s, text, got, at, err)
		}
		for _, e := range s.F {
			text := FormatExpr(e, s.Names)
			got, at, err := ParseExpr(text, s.Names)
			if len(text) > api.MaxText || !slices.Equal(got, e) || at != 0 || err != api.OK {
				t.Errorf("%v becomes %q and %v, %d, %d", e, text, got, at, err)
			}
		}
	}
	if long < total/100 || long > total/4 {
		t.Errorf("%d of %d texts are too long: these tests miss something", long, total)
	}
}

func TestRoundTripOfEdges(t *testing.T) {
	for _, e := range [][]api.Node{
		constant(0), constant(1), constant(-1), constant(largest), constant(-largest), num(-largest, largest), num(-1, 0), num(0, 1), num(-1, 1), num(-api.Max, api.Max),
		join(api.Neg, constant(0)), join(api.Neg, constant(-one)), join(api.Sub, constant(-one), join(api.Neg, constant(one))), long(199), deep(200), slices.Concat(slices.Repeat([]api.Node{{Op: api.Neg}}, 199), now()),
		slices.Concat(slices.Repeat([]api.Node{{Op: api.Div}}, 99), slices.Repeat(variable(5), 100)),
	} {
		s := api.System{Names: letters[:6], F: slices.Repeat([][]api.Node{e}, 6)}
		if got, at, err := Parse(Format(s)); !equalSystems(got, s) || at != 0 || err != api.OK {
			t.Errorf("%v becomes %q and %v, %d, %d", s, Format(s), got, at, err)
		}
	}
}

// P7.3: unary minus binds more tightly than products, products more tightly than
// sums, and binary operators are left-associative.

func TestPrecedenceOfTwoOperators(t *testing.T) {
	a, b, c := variable(0), variable(1), variable(2)
	signs := []struct {
		sign      string
		op, level int
	}{{"+", api.Add, 1}, {"-", api.Sub, 1}, {"*", api.Mul, 2}, {"/", api.Div, 2}}
	compare := func(text string, want []api.Node) {
		t.Helper()
		if e, _, err := ParseExpr(text, letters[:3]); !slices.Equal(e, want) || err != api.OK {
			t.Errorf("ParseExpr(%q) = %v, want %v", text, e, want)
		}
	}
	for _, x := range signs {
		compare("-a"+x.sign+"b", join(x.op, join(api.Neg, a), b))
		compare("a"+x.sign+"-b", join(x.op, a, join(api.Neg, b)))
		compare("-(a"+x.sign+"b)", join(api.Neg, join(x.op, a, b)))
		for _, y := range signs {
			first, second := join(y.op, join(x.op, a, b), c), join(x.op, a, join(y.op, b, c))
			want := first
			if y.level > x.level {
				want = second
			}
			compare("a"+x.sign+"b"+y.sign+"c", want)
			compare("(a"+x.sign+"b)"+y.sign+"c", first)
			compare("a"+x.sign+"(b"+y.sign+"c)", second)
		}
	}
}

func TestFewParentheses(t *testing.T) {
	source := rand.New(rand.NewSource(3))
	for i := range 5000 {
		s := randomSystem(source, []int{3, 10, 40}[i%3])
		text := writtenSystem(source, s)
		if got, at, err := Parse(text); len(text) <= api.MaxText && (!equalSystems(got, s) || at != 0 || err != api.OK) {
			t.Errorf("%v becomes %q and %v, %d, %d", s, text, got, at, err)
		}
	}
}

// P7.4: larger boxes have larger values, which contain those at all points.

// widened returns an interval that contains another one.
func widened(source *rand.Rand, a api.Interval) api.Interval {
	switch source.Intn(5) {
	case 0:
		return a
	case 1:
		return entire
	}
	by := between(source.Int63n(1<<source.Intn(20)), source.Int63n(1<<source.Intn(20)))
	if a == entire || a.Lo-by.Lo <= -api.Max || a.Hi+by.Hi >= api.Max {
		return entire
	}
	return between(a.Lo-by.Lo, a.Hi+by.Hi)
}

func TestIsotonicity(t *testing.T) {
	source := rand.New(rand.NewSource(4))
	bounded, strict := 0, 0
	for range 30000 {
		e := randomExpr(source, 1+source.Intn(12), 3)
		x, time := []api.Interval{randomInterval(source), randomInterval(source), randomInterval(source)}, randomInterval(source)
		var y []api.Interval
		for _, a := range x {
			y = append(y, widened(source, a))
		}
		later := widened(source, time)
		a, b := Eval(e, x, time), Eval(e, y, later)
		if b.Lo > a.Lo || b.Hi < a.Hi {
			t.Fatalf("%v has the values %v for %v, %v, but %v for %v, %v", e, a, x, time, b, y, later)
		}
		if b != entire {
			bounded++
		}
		if b != entire && a != b {
			strict++
		}
	}
	if bounded < 3000 || strict < 1000 {
		t.Errorf("%d values are bounded, %d are strictly larger: these tests miss something", bounded, strict)
	}
}

// precision is the number of bits behind the point of the square roots below. The
// values of expressions are compared with a tolerance that is far smaller than a
// unit, but far larger than what it makes of that.
const precision = 600

var tolerance = new(big.Rat).SetFrac(big.NewInt(1), new(big.Int).Lsh(big.NewInt(1), 100))

// valueAt returns the value of an expression at a point, and false if there is none.
func valueAt(e []api.Node, x []*big.Rat, time *big.Rat, c func(api.Interval) *big.Rat) (*big.Rat, bool) {
	var l []*big.Rat
	for _, operand := range Operands(e) {
		v, ok := valueAt(operand, x, time, c)
		if !ok {
			return nil, false
		}
		l = append(l, v)
	}
	v := new(big.Rat)
	switch e[0].Op {
	case api.Num:
		return c(e[0].C), true
	case api.Var:
		return x[e[0].N], true
	case api.Time:
		return time, true
	case api.Neg:
		return v.Neg(l[0]), true
	case api.Sqr:
		return v.Mul(l[0], l[0]), true
	case api.Sqrt:
		if l[0].Sign() < 0 {
			return nil, false
		}
		shifted := new(big.Int).Lsh(l[0].Num(), 2*precision)
		root := new(big.Int).Sqrt(shifted.Quo(shifted, l[0].Denom()))
		return v.SetFrac(root, new(big.Int).Lsh(big.NewInt(1), precision)), true
	case api.Add:
		return v.Add(l[0], l[1]), true
	case api.Sub:
		return v.Sub(l[0], l[1]), true
	case api.Mul:
		return v.Mul(l[0], l[1]), true
	}
	if l[1].Sign() == 0 {
		return nil, false
	}
	return v.Quo(l[0], l[1]), true
}

// pointIn returns a point of an interval: an end or any other one.
func pointIn(source *rand.Rand, a api.Interval) *big.Rat {
	if a == entire {
		return big.NewRat(randomNumber(source)*1000, one)
	}
	switch source.Intn(4) {
	case 0:
		return big.NewRat(a.Lo, one)
	case 1:
		return big.NewRat(a.Hi, one)
	}
	part := source.Int63n(1001)
	low := new(big.Rat).Mul(big.NewRat(a.Lo, one), big.NewRat(1000-part, 1000))
	return low.Add(low, new(big.Rat).Mul(big.NewRat(a.Hi, one), big.NewRat(part, 1000)))
}

func TestValuesAtPoints(t *testing.T) {
	source := rand.New(rand.NewSource(5))
	bounded, none := 0, 0
	for range 10000 {
		e := randomExpr(source, 1+source.Intn(12), 3)
		box, time := []api.Interval{randomInterval(source), randomInterval(source), randomInterval(source)}, randomInterval(source)
		got := Eval(e, box, time)
		for range 5 {
			var x []*big.Rat
			for _, a := range box {
				x = append(x, pointIn(source, a))
			}
			v, ok := valueAt(e, x, pointIn(source, time), func(a api.Interval) *big.Rat { return pointIn(source, a) })
			if !ok {
				none++
				if got != entire {
					t.Fatalf("%v has the values %v on %v, %v, but no value at %v", e, got, box, time, x)
				}
				continue
			}
			if got == entire {
				continue
			}
			bounded++
			low := new(big.Rat).Sub(big.NewRat(got.Lo, one), tolerance)
			high := new(big.Rat).Add(big.NewRat(got.Hi, one), tolerance)
			if v.Cmp(low) < 0 || v.Cmp(high) > 0 {
				t.Fatalf("%v has the values %v on %v, %v, but %s at %v", e, got, box, time, v.FloatString(20), x)
			}
		}
	}
	if bounded < 5000 || none < 1000 {
		t.Errorf("%d values are compared, and there are %d without one: these tests miss something", bounded, none)
	}
}

// P7.5: renaming the state variables does not change the expressions, and
// permuting the lines permutes the state variables.

func TestRenaming(t *testing.T) {
	source := rand.New(rand.NewSource(6))
	word := regexp.MustCompile(`[a-z][a-z0-9]*`)
	for range 1000 {
		s := randomSystem(source, 12)
		text, renamed := writtenSystem(source, s), randomNames(source, len(s.Names))
		got, _, err := Parse(word.ReplaceAllStringFunc(text, func(name string) string {
			if i := slices.Index(s.Names, name); i >= 0 {
				return renamed[i]
			}
			return name
		}))
		if want := (api.System{Names: renamed, F: s.F}); !equalSystems(got, want) || err != api.OK {
			t.Errorf("%q with %v in place of %v gives %v", text, renamed, s.Names, got)
		}
		for _, e := range s.F {
			if got, _, err := ParseExpr(FormatExpr(e, renamed), renamed); !slices.Equal(got, e) || err != api.OK {
				t.Errorf("%v with the names %v becomes %v", e, renamed, got)
			}
		}
	}
}

func TestPermutedLines(t *testing.T) {
	source := rand.New(rand.NewSource(7))
	for range 1000 {
		s := randomSystem(source, 12)
		n := len(s.Names)
		// Line i of the new text is line order[i] of the old one.
		order := source.Perm(n)
		place := make([]int, n)
		text, want := "", api.System{}
		for i, k := range order {
			place[k] = i
			text += s.Names[k] + "'=" + FormatExpr(s.F[k], s.Names) + "\n"
		}
		box, moved := make([]api.Interval, n), make([]api.Interval, n)
		for k := range n {
			box[k] = randomInterval(source)
			moved[place[k]] = box[k]
		}
		for _, k := range order {
			e := slices.Clone(s.F[k])
			for i, node := range e {
				if node.Op == api.Var {
					e[i].N = place[node.N]
				}
			}
			want.Names, want.F = append(want.Names, s.Names[k]), append(want.F, e)
		}
		got, _, err := Parse(text)
		if !equalSystems(got, want) || err != api.OK {
			t.Errorf("Parse(%q) = %v, want %v", text, got, want)
		}
		a, b := Derivatives(s, box, point(one)), Derivatives(got, moved, point(one))
		for k := range n {
			if a[k] != b[place[k]] {
				t.Errorf("the derivatives %v of %v become %v", a, s, b)
			}
		}
	}
}
