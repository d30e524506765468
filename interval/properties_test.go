package interval

import (
	"math/big"
	"math/rand"
	"slices"
	"testing"

	"armillary/api"
)

// intervals returns the entire interval and all intervals between some numbers.
func intervals() []api.Interval {
	ends := []int64{-largest, -2147450880, -65537, -65535, -256, -3, -1, 0, 1, 3, 256, 65535, 65537, 2147450880, largest}
	l := []api.Interval{entire}
	for i, lo := range ends {
		for _, hi := range ends[i:] {
			l = append(l, between(lo, hi))
		}
	}
	return l
}

// small returns the entire interval and all intervals within [-3, 3] units.
func small() []api.Interval {
	l := []api.Interval{entire}
	for lo := int64(-3); lo <= 3; lo++ {
		for hi := lo; hi <= 3; hi++ {
			l = append(l, between(lo, hi))
		}
	}
	return l
}

// randomNumber returns a number of any length.
func randomNumber(source *rand.Rand) int64 {
	x := source.Int63n(1 << (1 + source.Intn(31)))
	if source.Intn(2) == 0 {
		return -x
	}
	return x
}

// randomInterval returns an interval of any size, seldom the entire one.
func randomInterval(source *rand.Rand) api.Interval {
	x, y := randomNumber(source), randomNumber(source)
	switch source.Intn(20) {
	case 0:
		return entire
	case 1, 2:
		return point(x)
	case 3, 4, 5, 6:
		y = min(max(x+randomNumber(source)>>20, -largest), largest)
	}
	return between(min(x, y), max(x, y))
}

// pairs returns pairs of intervals: all of intervals(), and random ones.
func pairs() [][2]api.Interval {
	var l [][2]api.Interval
	for _, a := range intervals() {
		for _, b := range intervals() {
			l = append(l, [2]api.Interval{a, b})
		}
	}
	source := rand.New(rand.NewSource(1))
	for range 20000 {
		l = append(l, [2]api.Interval{randomInterval(source), randomInterval(source)})
	}
	return l
}

// singles returns intervals(), and random ones.
func singles() []api.Interval {
	l := intervals()
	source := rand.New(rand.NewSource(2))
	for range 20000 {
		l = append(l, randomInterval(source))
	}
	return l
}

// fraction is a factor n / d of MulRatio.
type fraction struct{ n, d int64 }

func fractions() []fraction {
	const bound = 1 << 30
	l := []fraction{{0, 1}, {1, 1}, {-1, 1}, {1, 2}, {-1, 2}, {2, 3}, {-7, 3}, {1, bound}, {-1, bound}, {bound, 1}, {-bound, 1}, {bound, bound}, {-bound, bound - 1}, {bound, bound - 1}, {65535, 2}, {0, bound}}
	source := rand.New(rand.NewSource(3))
	for range 20 {
		l = append(l, fraction{source.Int63n(2*bound+1) - bound, 1 + source.Int63n(bound)})
	}
	return l
}

// rational returns a / b.
func rational(a, b int64) *big.Rat { return big.NewRat(a, b) }

// floor and ceiling round a rational.
func floor(q *big.Rat) *big.Int { return new(big.Int).Div(q.Num(), q.Denom()) }

func ceiling(q *big.Rat) *big.Int {
	return new(big.Int).Neg(floor(new(big.Rat).Neg(q)))
}

// enclosing returns make(floor(p), ceil(q)) for the minimum p and the maximum q of some values.
func enclosing(values ...*big.Rat) api.Interval {
	order := func(p, q *big.Rat) int { return p.Cmp(q) }
	lo, hi := floor(slices.MinFunc(values, order)), ceiling(slices.MaxFunc(values, order))
	bound := big.NewInt(api.Max)
	if lo.CmpAbs(bound) >= 0 || hi.CmpAbs(bound) >= 0 {
		return entire
	}
	return between(lo.Int64(), hi.Int64())
}

func ends(a api.Interval) [2]int64 { return [2]int64{a.Lo, a.Hi} }

// combine returns f of each end of a and each end of b.
func combine(a, b api.Interval, f func(x, y int64) *big.Rat) []*big.Rat {
	var l []*big.Rat
	for _, x := range ends(a) {
		for _, y := range ends(b) {
			l = append(l, f(x, y))
		}
	}
	return l
}

// The exact values of the operations, in units.

func exactSum(x, y int64) *big.Rat        { return rational(x+y, 1) }
func exactDifference(x, y int64) *big.Rat { return rational(x-y, 1) }
func exactQuotient(x, y int64) *big.Rat   { return rational(x*api.One, y) }
func exactProduct(x, y int64) *big.Rat {
	return new(big.Rat).SetFrac(new(big.Int).Mul(big.NewInt(x), big.NewInt(y)), big.NewInt(api.One))
}

// TestSpecifiedResults compares the operations with their definitions: P2.1.
func TestSpecifiedResults(t *testing.T) {
	check := func(name string, a, b, got, want api.Interval) {
		t.Helper()
		if a == entire || b == entire {
			want = entire
		}
		if got != want {
			t.Errorf("%s of %v and %v is %v, want %v", name, a, b, got, want)
		}
	}
	for _, p := range pairs() {
		a, b := p[0], p[1]
		check("Add", a, b, Add(a, b), enclosing(combine(a, b, exactSum)...))
		check("Sub", a, b, Sub(a, b), enclosing(combine(a, b, exactDifference)...))
		check("Mul", a, b, Mul(a, b), enclosing(combine(a, b, exactProduct)...))
		if b.Lo <= 0 && b.Hi >= 0 {
			check("Div", a, b, Div(a, b), entire)
		} else {
			check("Div", a, b, Div(a, b), enclosing(combine(a, b, exactQuotient)...))
		}
	}
	for _, a := range singles() {
		check("Neg", a, a, Neg(a), enclosing(rational(-a.Lo, 1), rational(-a.Hi, 1)))
		squares := []*big.Rat{exactProduct(a.Lo, a.Lo), exactProduct(a.Hi, a.Hi)}
		if a.Lo <= 0 && a.Hi >= 0 {
			squares = append(squares, new(big.Rat))
		}
		check("Square", a, a, Square(a), enclosing(squares...))
	}
	for _, a := range intervals() {
		for _, q := range fractions() {
			lo := new(big.Rat).Mul(rational(a.Lo, 1), rational(q.n, q.d))
			hi := new(big.Rat).Mul(rational(a.Hi, 1), rational(q.n, q.d))
			check("MulRatio", a, a, MulRatio(a, q.n, q.d), enclosing(lo, hi))
		}
	}
}

func TestSpecifiedRoots(t *testing.T) {
	root := func(x int64) (int64, int64) {
		square := big.NewInt(max(x, 0) * api.One)
		r := new(big.Int).Sqrt(square)
		if new(big.Int).Mul(r, r).Cmp(square) == 0 {
			return r.Int64(), r.Int64()
		}
		return r.Int64(), r.Int64() + 1
	}
	for _, a := range singles() {
		got, ok := Sqrt(a)
		switch {
		case a == entire:
			if got != entire || !ok {
				t.Errorf("Sqrt(entire) = %v, %t", got, ok)
			}
		case a.Hi < 0:
			if got != zero || ok {
				t.Errorf("Sqrt(%v) = %v, %t", a, got, ok)
			}
		default:
			lo, _ := root(a.Lo)
			_, hi := root(a.Hi)
			if got != between(lo, hi) || !ok {
				t.Errorf("Sqrt(%v) = %v, %t, want %v", a, got, ok, between(lo, hi))
			}
		}
	}
}

// TestReturnedIntervalsAreValid is about P2.1 and about P3 of the document.
func TestReturnedIntervalsAreValid(t *testing.T) {
	source := rand.New(rand.NewSource(4))
	for _, p := range pairs() {
		l, _, _ := calls(p[0], p[1], source.Int63n(1<<30), 1+source.Int63n(1<<30))
		for i, a := range l {
			if i != 1 && !Valid(a) { // New is called with ends in any order
				t.Errorf("result %d for %v and %v is %v", i, p[0], p[1], a)
			}
		}
	}
	for _, x := range intervals() {
		if a := New(x.Lo, x.Hi); !Valid(a) {
			t.Errorf("New(%d, %d) = %v", x.Lo, x.Hi, a)
		}
	}
}

// P2.2: the results contain the exact values for all elements of the operands.

// elements returns some elements of an interval, in units.
func elements(source *rand.Rand, a api.Interval) []*big.Rat {
	l := []*big.Rat{rational(a.Lo, 1), rational(a.Hi, 1)}
	if a == entire {
		l = append(l, rational(1<<62, 3), rational(-1<<62, 3))
	}
	if a.Lo <= 0 && a.Hi >= 0 {
		l = append(l, new(big.Rat))
	}
	part := rational(source.Int63n(1000), 999)
	part.Mul(part, rational(a.Hi-a.Lo, 1))
	return append(l, part.Add(part, rational(a.Lo, 1)))
}

// holds reports whether a value lies in an interval.
func holds(a api.Interval, value *big.Rat) bool {
	return a == entire || value.Cmp(rational(a.Lo, 1)) >= 0 && value.Cmp(rational(a.Hi, 1)) <= 0
}

// scaled returns a value times n / d.
func scaled(value *big.Rat, n, d int64) *big.Rat { return new(big.Rat).Mul(value, rational(n, d)) }

func TestInclusionOfTwoOperands(t *testing.T) {
	source := rand.New(rand.NewSource(5))
	check := func(name string, x, y *big.Rat, result api.Interval, value *big.Rat) {
		t.Helper()
		if !holds(result, value) {
			t.Errorf("%s: %v does not contain the value %s for %s and %s", name, result, value, x, y)
		}
	}
	for _, p := range pairs() {
		sum, difference, product, quotient := Add(p[0], p[1]), Sub(p[0], p[1]), Mul(p[0], p[1]), Div(p[0], p[1])
		for _, x := range elements(source, p[0]) {
			for _, y := range elements(source, p[1]) {
				check("Add", x, y, sum, new(big.Rat).Add(x, y))
				check("Sub", x, y, difference, new(big.Rat).Sub(x, y))
				check("Mul", x, y, product, scaled(new(big.Rat).Mul(x, y), 1, api.One))
				if y.Sign() != 0 {
					check("Div", x, y, quotient, scaled(new(big.Rat).Quo(x, y), api.One, 1))
				}
			}
		}
	}
}

func TestInclusionOfOneOperand(t *testing.T) {
	source := rand.New(rand.NewSource(6))
	check := func(name string, x *big.Rat, result api.Interval, value *big.Rat) {
		t.Helper()
		if !holds(result, value) {
			t.Errorf("%s: %v does not contain the value %s for %s", name, result, value, x)
		}
	}
	for _, a := range singles() {
		negative, square := Neg(a), Square(a)
		root, isRoot := Sqrt(a)
		for _, x := range elements(source, a) {
			check("Neg", x, negative, new(big.Rat).Neg(x))
			check("Square", x, square, scaled(new(big.Rat).Mul(x, x), 1, api.One))
			if x.Sign() >= 0 && root != entire {
				low, high := rational(root.Lo, 1), rational(root.Hi, 1)
				value := scaled(x, api.One, 1)
				if !isRoot || low.Sign() < 0 || low.Mul(low, low).Cmp(value) > 0 || high.Mul(high, high).Cmp(value) < 0 {
					t.Errorf("Sqrt: %v does not contain the root of %s", root, x)
				}
			}
		}
	}
	for _, a := range intervals() {
		for _, q := range fractions() {
			result := MulRatio(a, q.n, q.d)
			for _, x := range elements(source, a) {
				check("MulRatio", x, result, scaled(x, q.n, q.d))
			}
		}
	}
}

// P2.3: no end can be moved inward.

// checkTight checks that values lie within a unit of each end of a result.
func checkTight(t *testing.T, name string, result api.Interval, values ...*big.Rat) {
	t.Helper()
	if result == entire {
		return
	}
	low, high := false, false
	for _, v := range values {
		low = low || v.Cmp(rational(result.Lo+1, 1)) < 0
		high = high || v.Cmp(rational(result.Hi-1, 1)) > 0
	}
	if !low || !high {
		t.Errorf("%s: an end of %v can be moved inward", name, result)
	}
}

func TestTightness(t *testing.T) {
	for _, p := range pairs() {
		a, b := p[0], p[1]
		checkTight(t, "Add", Add(a, b), combine(a, b, exactSum)...)
		checkTight(t, "Sub", Sub(a, b), combine(a, b, exactDifference)...)
		checkTight(t, "Mul", Mul(a, b), combine(a, b, exactProduct)...)
		if b.Lo > 0 || b.Hi < 0 {
			checkTight(t, "Div", Div(a, b), combine(a, b, exactQuotient)...)
		}
	}
	for _, a := range intervals() {
		for _, q := range fractions() {
			checkTight(t, "MulRatio", MulRatio(a, q.n, q.d), scaled(rational(a.Lo, 1), q.n, q.d), scaled(rational(a.Hi, 1), q.n, q.d))
		}
	}
	for _, a := range singles() {
		checkTight(t, "Neg", Neg(a), rational(-a.Lo, 1), rational(-a.Hi, 1))
		squares := []*big.Rat{exactProduct(a.Lo, a.Lo), exactProduct(a.Hi, a.Hi)}
		result := Square(a)
		if result.Lo == 0 { // this end is exempt
			squares = append(squares, new(big.Rat))
		}
		checkTight(t, "Square", result, squares...)
	}
}

// TestEntireResultsAreNeeded checks that a result is entire only if an operand
// is, or the divisor contains 0, or an end is out of range.
func TestEntireResultsAreNeeded(t *testing.T) {
	inRange := func(values []*big.Rat) bool { return enclosing(values...) != entire }
	for _, p := range pairs() {
		a, b := p[0], p[1]
		if a == entire || b == entire {
			continue
		}
		if Add(a, b) == entire && inRange(combine(a, b, exactSum)) || Sub(a, b) == entire && inRange(combine(a, b, exactDifference)) || Mul(a, b) == entire && inRange(combine(a, b, exactProduct)) {
			t.Errorf("a result for %v and %v is entire", a, b)
		}
		if (b.Lo > 0 || b.Hi < 0) && Div(a, b) == entire && inRange(combine(a, b, exactQuotient)) {
			t.Errorf("Div(%v, %v) is entire", a, b)
		}
	}
}

func TestTightRoots(t *testing.T) {
	for _, a := range singles() {
		root, ok := Sqrt(a)
		if !ok || root == entire {
			continue
		}
		if root.Lo != 0 && (root.Lo+1)*(root.Lo+1) <= a.Lo*api.One {
			t.Errorf("the lower end of Sqrt(%v) = %v can be moved inward", a, root)
		}
		if root.Hi != 0 && (root.Hi-1)*(root.Hi-1) >= a.Hi*api.One {
			t.Errorf("the upper end of Sqrt(%v) = %v can be moved inward", a, root)
		}
	}
}

// P2.4: isotonicity.

// randomSubset returns an interval within another one.
func randomSubset(source *rand.Rand, a api.Interval) api.Interval {
	inner := a
	if a == entire {
		inner = widest
	}
	switch source.Intn(6) {
	case 0:
		return a
	case 1:
		return point(inner.Lo)
	case 2:
		return point(inner.Hi)
	}
	x := inner.Lo + source.Int63n(inner.Hi-inner.Lo+1)
	y := inner.Lo + source.Int63n(inner.Hi-inner.Lo+1)
	return between(min(x, y), max(x, y))
}

func within(a, b api.Interval) bool { return b == entire || b.Lo <= a.Lo && a.Hi <= b.Hi }

func TestIsotonicity(t *testing.T) {
	source := rand.New(rand.NewSource(7))
	q := fractions()
	for _, p := range pairs() {
		c, d := p[0], p[1]
		a, b := randomSubset(source, c), randomSubset(source, d)
		check := func(name string, part, whole api.Interval) {
			t.Helper()
			if !within(part, whole) {
				t.Errorf("%s: %v for %v and %v is not in %v for %v and %v", name, part, a, b, whole, c, d)
			}
		}
		check("Add", Add(a, b), Add(c, d))
		check("Sub", Sub(a, b), Sub(c, d))
		check("Neg", Neg(a), Neg(c))
		check("Mul", Mul(a, b), Mul(c, d))
		check("Square", Square(a), Square(c))
		check("Div", Div(a, b), Div(c, d))
		check("Hull", Hull(a, b), Hull(c, d))
		factor := q[source.Intn(len(q))]
		check("MulRatio", MulRatio(a, factor.n, factor.d), MulRatio(c, factor.n, factor.d))
		if part, ok := Sqrt(a); ok {
			whole, ok := Sqrt(c)
			check("Sqrt", part, whole)
			if !ok {
				t.Errorf("Sqrt(%v) fails, but Sqrt(%v) does not", c, a)
			}
		}
		if part, ok := Intersect(a, b); ok {
			whole, ok := Intersect(c, d)
			check("Intersect", part, whole)
			if !ok {
				t.Errorf("Intersect(%v, %v) fails, but Intersect(%v, %v) does not", c, d, a, b)
			}
		}
	}
}

// P2.5: algebra.

func TestCommutativityAndSigns(t *testing.T) {
	for _, p := range pairs() {
		a, b := p[0], p[1]
		check := func(name string, x, y api.Interval) {
			t.Helper()
			if x != y {
				t.Errorf("%s for %v and %v: %v and %v", name, a, b, x, y)
			}
		}
		check("a + b = b + a", Add(a, b), Add(b, a))
		check("a b = b a", Mul(a, b), Mul(b, a))
		check("(-a) + (-b) = -(a + b)", Add(Neg(a), Neg(b)), Neg(Add(a, b)))
		check("a - b = a + (-b)", Sub(a, b), Add(a, Neg(b)))
		check("b - a = -(a - b)", Sub(b, a), Neg(Sub(a, b)))
		check("(-a) b = -(a b)", Mul(Neg(a), b), Neg(Mul(a, b)))
		check("a (-b) = -(a b)", Mul(a, Neg(b)), Neg(Mul(a, b)))
		check("(-a) (-b) = a b", Mul(Neg(a), Neg(b)), Mul(a, b))
		check("(-a) / b = -(a / b)", Div(Neg(a), b), Neg(Div(a, b)))
		check("a / (-b) = -(a / b)", Div(a, Neg(b)), Neg(Div(a, b)))
		check("(-a) / (-b) = a / b", Div(Neg(a), Neg(b)), Div(a, b))
	}
	for _, a := range singles() {
		if Neg(Neg(a)) != a {
			t.Errorf("-(-a) = %v for %v", Neg(Neg(a)), a)
		}
		if Square(Neg(a)) != Square(a) {
			t.Errorf("the squares of %v and its negative are %v and %v", a, Square(a), Square(Neg(a)))
		}
	}
	for _, a := range intervals() {
		for _, q := range fractions() {
			want := Neg(MulRatio(a, q.n, q.d))
			if got := MulRatio(Neg(a), q.n, q.d); got != want {
				t.Errorf("MulRatio of the negative of %v by %v is %v, want %v", a, q, got, want)
			}
			if got := MulRatio(a, -q.n, q.d); got != want {
				t.Errorf("MulRatio of %v by the negative of %v is %v, want %v", a, q, got, want)
			}
		}
	}
}

func TestSubdistributivity(t *testing.T) {
	source := rand.New(rand.NewSource(8))
	check := func(a, b, c api.Interval) {
		t.Helper()
		sum := Add(b, c)
		if sum == entire {
			return
		}
		if whole, parts := Mul(a, sum), Add(Mul(a, b), Mul(a, c)); !within(whole, parts) {
			t.Errorf("a (b + c) = %v is not in a b + a c = %v for %v, %v, %v", whole, parts, a, b, c)
		}
	}
	for _, a := range small() {
		for _, b := range small() {
			for _, c := range small() {
				check(a, b, c)
			}
		}
	}
	for _, p := range pairs() {
		check(p[0], p[1], randomInterval(source))
		check(randomInterval(source), p[0], p[1])
	}
}

// P2.6: Hull and Intersect are the bounds of the lattice of inclusion.

func TestSubsetIsInclusion(t *testing.T) {
	for _, a := range small() {
		for _, b := range small() {
			want := true
			for x := int64(-5); x <= 5; x++ {
				want = want && (!Contains(a, x) || Contains(b, x))
			}
			if got := Subset(a, b); got != want {
				t.Errorf("Subset(%v, %v) = %t", a, b, got)
			}
		}
	}
}

func TestLattice(t *testing.T) {
	for _, a := range small() {
		for _, b := range small() {
			hull := Hull(a, b)
			common, ok := Intersect(a, b)
			if !Subset(a, hull) || !Subset(b, hull) {
				t.Errorf("Hull(%v, %v) = %v is not an upper bound", a, b, hull)
			}
			if ok && (!Subset(common, a) || !Subset(common, b)) {
				t.Errorf("Intersect(%v, %v) = %v is not a lower bound", a, b, common)
			}
			for _, c := range small() {
				if Subset(a, c) && Subset(b, c) && !Subset(hull, c) {
					t.Errorf("Hull(%v, %v) = %v is not in the upper bound %v", a, b, hull, c)
				}
				if Subset(c, a) && Subset(c, b) && (!ok || !Subset(c, common)) {
					t.Errorf("Intersect(%v, %v) = %v, %t does not contain the lower bound %v", a, b, common, ok, c)
				}
			}
		}
	}
}

func TestLatticeLaws(t *testing.T) {
	for _, p := range pairs() {
		a, b := p[0], p[1]
		hull := Hull(a, b)
		if hull != Hull(b, a) || !Subset(a, hull) || !Subset(b, hull) || Subset(a, b) != (hull == b) {
			t.Errorf("Hull(%v, %v) = %v", a, b, hull)
		}
		common, ok := Intersect(a, b)
		if other, is := Intersect(b, a); other != common || is != ok {
			t.Errorf("Intersect is not commutative for %v and %v", a, b)
		}
		if ok && (!Subset(common, a) || !Subset(common, b)) || Subset(a, b) != (ok && common == a) {
			t.Errorf("Intersect(%v, %v) = %v, %t", a, b, common, ok)
		}
		if back, is := Intersect(a, hull); back != a || !is {
			t.Errorf("%v intersected with Hull(%v, %v) is %v, %t", a, a, b, back, is)
		}
		if !ok && (a.Hi >= b.Lo && b.Hi >= a.Lo || common != zero) {
			t.Errorf("Intersect(%v, %v) = %v, false", a, b, common)
		}
	}
}

// P2.7: measures.

func TestMeasuresAgreeWithEnds(t *testing.T) {
	for _, a := range append(singles(), small()...) {
		if mid := Mid(a); 2*mid > a.Lo+a.Hi || 2*mid+1 < a.Lo+a.Hi || !Contains(a, mid) {
			t.Errorf("Mid(%v) = %d", a, mid)
		}
		if width := Width(a); width != a.Hi-a.Lo || width != Width(Neg(a)) || (width == 0) != (a == point(a.Lo)) {
			t.Errorf("Width(%v) = %d", a, width)
		}
		mag := Mag(a)
		if mag < a.Hi || mag < -a.Lo || mag != a.Hi && mag != -a.Lo || mag != Mag(Neg(a)) {
			t.Errorf("Mag(%v) = %d", a, mag)
		}
		sign := Sign(a)
		if sign > 0 != (a.Lo > 0) || sign < 0 != (a.Hi < 0) || sign < -1 || sign > 1 || sign != -Sign(Neg(a)) || (sign == 0) != Contains(a, 0) {
			t.Errorf("Sign(%v) = %d", a, sign)
		}
	}
}
