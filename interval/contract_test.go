package interval

import (
	"go/parser"
	"go/token"
	"math"
	"path/filepath"
	"strings"
	"testing"

	"armillary/api"
)

// Tests of P2.1: the functions return what B1 to B5 say.

const largest = api.Max - 1

var (
	entire = api.Interval{Lo: -api.Max, Hi: api.Max}
	widest = api.Interval{Lo: -largest, Hi: largest}
	zero   = api.Interval{}
)

func between(lo, hi int64) api.Interval { return api.Interval{Lo: lo, Hi: hi} }

func point(x int64) api.Interval { return api.Interval{Lo: x, Hi: x} }

// invalid returns pairs of ends that are no valid interval.
func invalid() []api.Interval {
	return []api.Interval{
		between(1, 0), between(0, -1), between(largest, -largest), between(api.Max, -api.Max),
		between(0, api.Max), between(-api.Max, 0), between(-api.Max, largest), between(-largest, api.Max),
		between(-api.Max, -api.Max), between(api.Max, api.Max), between(api.Max, api.Max+1),
		between(-api.Max-1, api.Max), between(-api.Max, api.Max+1), between(-api.Max-1, api.Max+1),
		between(1<<40, 1<<41), between(-1<<41, -1<<40), between(1<<32, 1<<32), between(0, 1<<32),
		between(math.MinInt64, math.MaxInt64), between(math.MaxInt64, math.MinInt64),
		between(math.MinInt64, math.MinInt64), between(math.MaxInt64, math.MaxInt64),
		between(0, math.MaxInt64), between(math.MinInt64, 0), between(-1, math.MinInt64), between(math.MaxInt64, 1),
	}
}

func TestValid(t *testing.T) {
	for _, a := range []api.Interval{zero, point(1), point(-1), point(largest), point(-largest), between(0, 1), between(-1, 0), between(-5, 5), between(0, largest), between(-largest, 0), widest, entire} {
		if !Valid(a) {
			t.Errorf("Valid(%v) = false", a)
		}
	}
	for _, a := range invalid() {
		if Valid(a) {
			t.Errorf("Valid(%v) = true", a)
		}
	}
}

func TestEntire(t *testing.T) {
	if Entire() != entire || !IsEntire(entire) {
		t.Errorf("Entire() = %v, IsEntire of it is %t", Entire(), IsEntire(entire))
	}
	for _, a := range append(invalid(), zero, point(largest), between(-largest, 0), widest) {
		if IsEntire(a) {
			t.Errorf("IsEntire(%v) = true", a)
		}
	}
}

func TestNewAndPoint(t *testing.T) {
	for _, x := range []struct {
		lo, hi int64
		want   api.Interval
	}{
		{0, 0, zero},
		{-3, 4, between(-3, 4)},
		{-3, -3, point(-3)},
		{-largest, largest, widest},
		{-largest, -largest, point(-largest)},
		{largest, largest, point(largest)},
		{0, api.Max, entire},
		{largest, api.Max, entire},
		{api.Max, api.Max, entire},
		{-api.Max, 0, entire},
		{-api.Max, -largest, entire},
		{-api.Max, -api.Max, entire},
		{-api.Max, api.Max, entire},
		{1 << 40, 1 << 41, entire},
		{-1 << 41, -1 << 40, entire},
		{0, 1 << 32, entire},
		{1 << 32, 1 << 32, entire},
		{math.MinInt64, math.MaxInt64, entire},
		{math.MinInt64, 0, entire},
		{0, math.MaxInt64, entire},
		{math.MinInt64, math.MinInt64, entire},
		{math.MaxInt64, math.MaxInt64, entire},
	} {
		if a := New(x.lo, x.hi); a != x.want {
			t.Errorf("New(%d, %d) = %v, want %v", x.lo, x.hi, a, x.want)
		}
		if a := Point(x.lo); x.lo == x.hi && a != x.want {
			t.Errorf("Point(%d) = %v, want %v", x.lo, a, x.want)
		}
	}
}

// operation is a call of a function of two intervals with the result that it must have.
type operation struct{ a, b, want api.Interval }

func checkOperations(t *testing.T, name string, f func(a, b api.Interval) api.Interval, l []operation) {
	t.Helper()
	for _, x := range l {
		if got := f(x.a, x.b); got != x.want {
			t.Errorf("%s(%v, %v) = %v, want %v", name, x.a, x.b, got, x.want)
		}
	}
	for _, a := range intervals() {
		if got := f(a, entire); got != entire {
			t.Errorf("%s(%v, entire) = %v", name, a, got)
		}
		if got := f(entire, a); got != entire {
			t.Errorf("%s(entire, %v) = %v", name, a, got)
		}
	}
}

func TestAdd(t *testing.T) {
	checkOperations(t, "Add", Add, []operation{
		{between(1, 2), between(-5, 9), between(-4, 11)},
		{zero, zero, zero},
		{point(1 << 30), point(1<<30 - 1), point(largest)},
		{point(1 << 30), point(1 << 30), entire},
		{point(-1 << 30), point(1 - 1<<30), point(-largest)},
		{point(-1 << 30), point(-1 << 30), entire},
		{between(0, largest), between(0, 1), entire},
		{between(-largest, 0), between(-1, 0), entire},
		{between(-largest, largest), zero, widest},
		{point(largest), point(largest), entire},
		{point(-largest), point(-largest), entire},
		{point(largest), point(-largest), zero},
	})
}

func TestSub(t *testing.T) {
	checkOperations(t, "Sub", Sub, []operation{
		{between(1, 2), between(-5, 9), between(-8, 7)},
		{between(1, 2), between(1, 2), between(-1, 1)},
		{zero, between(-5, 9), between(-9, 5)},
		{point(1 << 30), point(1 - 1<<30), point(largest)},
		{point(1 << 30), point(-1 << 30), entire},
		{point(-1 << 30), point(1<<30 - 1), point(-largest)},
		{point(-1 << 30), point(1 << 30), entire},
		{between(0, largest), between(-1, 0), entire},
		{between(-largest, 0), between(0, 1), entire},
		{point(largest), point(largest), zero},
		{point(-largest), point(largest), entire},
	})
}

func TestNeg(t *testing.T) {
	for _, x := range []struct{ a, want api.Interval }{
		{zero, zero}, {between(-5, 9), between(-9, 5)}, {point(3), point(-3)}, {between(2, 3), between(-3, -2)},
		{point(largest), point(-largest)}, {between(0, largest), between(-largest, 0)}, {widest, widest}, {entire, entire},
	} {
		if got := Neg(x.a); got != x.want {
			t.Errorf("Neg(%v) = %v, want %v", x.a, got, x.want)
		}
	}
}

func TestMul(t *testing.T) {
	const one, two, three = api.One, 2 * api.One, 3 * api.One
	checkOperations(t, "Mul", Mul, []operation{
		{between(32768, 65536), between(-65536, 196608), between(-65536, 196608)},
		{between(one, two), between(one, three), between(one, 6*one)},
		{between(one, two), between(-three, -one), between(-6*one, -one)},
		{between(one, two), between(-one, three), between(-two, 6*one)},
		{between(-two, -one), between(one, three), between(-6*one, -one)},
		{between(-two, -one), between(-three, -one), between(one, 6*one)},
		{between(-two, -one), between(-one, three), between(-6*one, two)},
		{between(-two, one), between(one, three), between(-6*one, three)},
		{between(-two, one), between(-three, -one), between(-three, 6*one)},
		{between(-two, one), between(-one, three), between(-6*one, three)},
		{between(-one, two), between(-one, three), between(-three, 6*one)},
		{between(-one, two), between(-three, one), between(-6*one, three)},
		{between(-three, one), between(-two, one), between(-three, 6*one)},
		{between(0, two), between(-one, three), between(-two, 6*one)},
		{between(-two, 0), between(-one, three), between(-6*one, two)},
		{between(0, two), between(0, three), between(0, 6*one)},
		{between(-two, 0), between(0, three), between(-6*one, 0)},
		{between(-two, 0), between(-three, 0), between(0, 6*one)},
		{zero, widest, zero},
		{zero, zero, zero},
		{point(1), point(1), between(0, 1)},
		{point(-1), point(1), between(-1, 0)},
		{point(-1), point(-1), between(0, 1)},
		{between(-1, 1), between(-1, 1), between(-1, 1)},
		{widest, point(one), widest},
		{widest, point(-one), widest},
		{point(largest), point(largest), entire},
		{point(largest), point(one + 1), entire},
		// 65537 * 2147450879 / 65536 lies between the two largest numbers, and
		// with one more it lies between the largest number and 2^31.
		{point(one + 1), point(2147450879), between(largest-1, largest)},
		{point(one + 1), point(-2147450879), between(-largest, 1-largest)},
		{point(one + 1), point(2147450880), entire},
		{point(one + 1), point(-2147450880), entire},
		{between(-one-1, 0), between(0, 2147450880), entire},
		{point(1 << 30), point(two - 1), between(2147467264, 2147467264)},
		{point(1 << 30), point(two), entire},
		{point(1 << 30), point(-two), entire},
	})
}

func TestSquare(t *testing.T) {
	for _, x := range []struct{ a, want api.Interval }{
		{between(-32768, 16384), between(0, 16384)},
		{between(-16384, 32768), between(0, 16384)},
		{between(65536, 131072), between(65536, 262144)},
		{between(-131072, -65536), between(65536, 262144)},
		{between(0, 131072), between(0, 262144)},
		{between(-131072, 0), between(0, 262144)},
		{zero, zero},
		{point(1), between(0, 1)},
		{point(-1), between(0, 1)},
		{between(-1, 1), between(0, 1)},
		{between(257, 513), between(1, 5)},
		{between(-513, -257), between(1, 5)},
		{point(11863283), between(2147483574, 2147483575)},
		{between(-11863283, 11863283), between(0, 2147483575)},
		{point(11863284), entire},
		{point(-11863284), entire},
		{between(0, 11863284), entire},
		{between(-11863284, 0), entire},
		{widest, entire},
		{entire, entire},
	} {
		if got := Square(x.a); got != x.want {
			t.Errorf("Square(%v) = %v, want %v", x.a, got, x.want)
		}
	}
}

func TestDiv(t *testing.T) {
	const one, two = api.One, 2 * api.One
	l := []operation{
		{point(one), point(3 * one), between(21845, 21846)},
		{point(-one), point(3 * one), between(-21846, -21845)},
		{between(one, two), between(one, two), between(one/2, two)},
		{between(one, two), between(-two, -one), between(-two, -one/2)},
		{between(-two, -one), between(one, two), between(-two, -one/2)},
		{between(-two, -one), between(-two, -one), between(one/2, two)},
		{between(-one, two), between(one, two), between(-one, two)},
		{between(-one, two), between(-two, -one), between(-two, one)},
		{between(0, two), between(one, two), between(0, two)},
		{between(0, two), between(-two, -one), between(-two, 0)},
		{between(-two, 0), between(one, two), between(-two, 0)},
		{between(-two, 0), between(-two, -one), between(0, two)},
		{zero, point(3), zero},
		{zero, between(-largest, -1), zero},
		{point(1), point(largest), between(0, 1)},
		{point(-1), point(largest), between(-1, 0)},
		{widest, point(one), widest},
		{widest, point(-one), widest},
		{widest, point(one - 1), entire},
		{point(largest), point(largest), point(one)},
		{point(32767), point(1), point(32767 * one)},
		{point(-32767), point(1), point(-32767 * one)},
		{point(32768), point(1), entire},
		{point(-32768), point(1), entire},
		{point(32768), point(-1), entire},
		{between(0, 32768), between(1, 2), entire},
		{between(-32768, 0), between(1, 2), entire},
		{point(2147450879), point(one - 1), between(largest-1, largest)},
		{point(2147450880), point(one - 1), entire},
	}
	for _, b := range []api.Interval{zero, between(-1, 1), between(0, 1), between(-1, 0), between(0, largest), between(-largest, 0), widest, entire} {
		for _, a := range []api.Interval{zero, point(one), between(-one, two), between(-two, -one), widest, entire} {
			l = append(l, operation{a, b, entire})
		}
	}
	checkOperations(t, "Div", Div, l)
}

func TestMulRatio(t *testing.T) {
	const bound = 1 << 30
	for _, x := range []struct {
		a    api.Interval
		n, d int64
		want api.Interval
	}{
		{between(65536, 131072), -1, 3, between(-43691, -21845)},
		{between(65536, 131072), 1, 3, between(21845, 43691)},
		{between(-131072, 65536), 1, 3, between(-43691, 21846)},
		{between(-131072, 65536), -1, 3, between(-21846, 43691)},
		{between(-5, 5), 1, 2, between(-3, 3)},
		{between(-5, 4), -1, 2, between(-2, 3)},
		{between(-5, 7), 0, 7, zero},
		{between(-5, 7), 1, 1, between(-5, 7)},
		{between(-5, 7), bound, bound, between(-5, 7)},
		{between(-5, 7), -bound, bound, between(-7, 5)},
		{zero, bound, 1, zero},
		{zero, -bound, bound, zero},
		{between(-1, 1), 1, bound, between(-1, 1)},
		{point(1), 1, bound, between(0, 1)},
		{point(1), -1, bound, between(-1, 0)},
		{point(1), bound, 1, point(bound)},
		{point(1), -bound, 1, point(-bound)},
		{point(2), bound, 1, entire},
		{point(2), -bound, 1, entire},
		{widest, 1, 1, widest},
		{widest, -1, 1, widest},
		{widest, 0, 1, zero},
		{widest, bound, bound - 1, entire},
		{widest, bound - 1, bound, between(2-api.Max, api.Max-2)},
		// 65537 * 65535 / 2 lies between the largest number and 2^31.
		{point(65537), 65535, 2, entire},
		{point(-65537), 65535, 2, entire},
		{point(65537), -65535, 2, entire},
		{point(largest - 2), bound, bound - 1, between(largest-1, largest)},
		{point(largest - 2), -bound, bound - 1, between(-largest, 1-largest)},
		{between(-65537, 0), 65535, 2, entire},
		{entire, 0, 1, entire},
		{entire, 1, 1, entire},
		{entire, -bound, bound, entire},
	} {
		if got := MulRatio(x.a, x.n, x.d); got != x.want {
			t.Errorf("MulRatio(%v, %d, %d) = %v, want %v", x.a, x.n, x.d, got, x.want)
		}
	}
}

func TestSqrt(t *testing.T) {
	for _, x := range []struct {
		a, want api.Interval
		ok      bool
	}{
		{between(-65536, 131072), between(0, 92682), true},
		{between(65536, 262144), between(65536, 131072), true},
		{between(2, 3), between(362, 444), true},
		{point(2), between(362, 363), true},
		{between(0, 2), between(0, 363), true},
		{between(-1, 1), between(0, 256), true},
		{zero, zero, true},
		{between(-9, 0), zero, true},
		{between(-largest, 0), zero, true},
		{widest, between(0, 11863284), true},
		{point(largest), between(11863283, 11863284), true},
		{entire, entire, true},
		{point(-1), zero, false},
		{between(-9, -1), zero, false},
		{between(-largest, -1), zero, false},
		{point(-largest), zero, false},
	} {
		if got, ok := Sqrt(x.a); got != x.want || ok != x.ok {
			t.Errorf("Sqrt(%v) = %v, %t, want %v, %t", x.a, got, ok, x.want, x.ok)
		}
	}
}

func TestHull(t *testing.T) {
	checkOperations(t, "Hull", Hull, []operation{
		{between(1, 2), between(5, 6), between(1, 6)},
		{between(5, 6), between(1, 2), between(1, 6)},
		{between(1, 9), between(5, 6), between(1, 9)},
		{between(5, 6), between(1, 9), between(1, 9)},
		{between(1, 5), between(5, 6), between(1, 6)},
		{between(-7, 5), between(-9, 4), between(-9, 5)},
		{zero, zero, zero},
		{point(-largest), point(largest), widest},
	})
}

func TestIntersect(t *testing.T) {
	for _, x := range []struct {
		a, b, want api.Interval
		ok         bool
	}{
		{between(1, 5), between(4, 9), between(4, 5), true},
		{between(1, 9), between(4, 5), between(4, 5), true},
		{between(1, 4), between(4, 9), point(4), true},
		{between(1, 3), between(4, 9), zero, false},
		{between(-9, -4), between(-3, -1), zero, false},
		{point(7), point(7), point(7), true},
		{point(7), point(8), zero, false},
		{point(-largest), point(largest), zero, false},
		{between(-5, 0), between(0, 5), zero, true},
		{widest, between(4, 9), between(4, 9), true},
		{entire, between(4, 9), between(4, 9), true},
		{entire, widest, widest, true},
		{entire, entire, entire, true},
	} {
		if got, ok := Intersect(x.a, x.b); got != x.want || ok != x.ok {
			t.Errorf("Intersect(%v, %v) = %v, %t, want %v, %t", x.a, x.b, got, ok, x.want, x.ok)
		}
		if got, ok := Intersect(x.b, x.a); got != x.want || ok != x.ok {
			t.Errorf("Intersect(%v, %v) = %v, %t, want %v, %t", x.b, x.a, got, ok, x.want, x.ok)
		}
	}
}

func TestSubset(t *testing.T) {
	for _, x := range []struct {
		a, b api.Interval
		want bool
	}{
		{between(1, 3), between(1, 3), true},
		{between(1, 3), between(0, 4), true},
		{between(1, 3), between(1, 4), true},
		{between(1, 3), between(0, 3), true},
		{between(1, 3), between(2, 3), false},
		{between(1, 3), between(1, 2), false},
		{between(1, 3), between(2, 2), false},
		{between(1, 3), between(4, 9), false},
		{between(1, 3), between(-9, 0), false},
		{zero, zero, true},
		{point(5), entire, true},
		{widest, entire, true},
		{entire, entire, true},
		{entire, widest, false},
		{entire, zero, false},
	} {
		if got := Subset(x.a, x.b); got != x.want {
			t.Errorf("Subset(%v, %v) = %t", x.a, x.b, got)
		}
	}
}

func TestContains(t *testing.T) {
	for _, x := range []struct {
		a    api.Interval
		x    int64
		want bool
	}{
		{between(1, 3), 1, true}, {between(1, 3), 2, true}, {between(1, 3), 3, true},
		{between(1, 3), 0, false}, {between(1, 3), 4, false},
		{zero, 0, true}, {zero, 1, false}, {zero, -1, false},
		{widest, largest, true}, {widest, -largest, true}, {widest, api.Max, false}, {widest, -api.Max, false},
		{widest, math.MaxInt64, false}, {widest, math.MinInt64, false},
		{entire, 0, true}, {entire, api.Max, true}, {entire, -api.Max, true}, {entire, api.Max + 1, true},
		{entire, math.MaxInt64, true}, {entire, math.MinInt64, true},
		// These are no valid intervals.
		{between(3, 1), 0, false}, {between(3, 1), 1, false}, {between(3, 1), 2, false}, {between(3, 1), 3, false}, {between(3, 1), 4, false},
		{between(-api.Max, 0), -api.Max, true}, {between(-api.Max, 0), -api.Max - 1, false}, {between(-api.Max, 0), 1, false},
		{between(0, api.Max), api.Max, true}, {between(0, api.Max), api.Max + 1, false}, {between(0, api.Max), -1, false},
		{between(-api.Max, api.Max+1), api.Max + 1, true}, {between(-api.Max, api.Max+1), api.Max + 2, false},
		{between(-api.Max-1, api.Max), -api.Max - 1, true}, {between(-api.Max-1, api.Max), math.MinInt64, false},
		{between(api.Max, -api.Max), 0, false},
		{between(math.MinInt64, math.MaxInt64), math.MinInt64, true}, {between(math.MinInt64, math.MaxInt64), math.MaxInt64, true},
		{between(math.MaxInt64, math.MinInt64), 0, false}, {between(math.MaxInt64, math.MaxInt64), math.MaxInt64, true},
	} {
		if got := Contains(x.a, x.x); got != x.want {
			t.Errorf("Contains(%v, %d) = %t", x.a, x.x, got)
		}
	}
}

func TestMeasures(t *testing.T) {
	for _, x := range []struct {
		a               api.Interval
		mid, width, mag int64
		sign            int
	}{
		{zero, 0, 0, 0, 0},
		{between(1, 4), 2, 3, 4, 1},
		{between(-4, -1), -3, 3, 4, -1},
		{between(-3, 0), -2, 3, 3, 0},
		{between(0, 3), 1, 3, 3, 0},
		{between(-3, 2), -1, 5, 3, 0},
		{between(-2, 3), 0, 5, 3, 0},
		{point(1), 1, 0, 1, 1},
		{point(-1), -1, 0, 1, -1},
		{point(largest), largest, 0, largest, 1},
		{point(-largest), -largest, 0, largest, -1},
		{between(largest-1, largest), largest - 1, 1, largest, 1},
		{between(-largest, 1-largest), -largest, 1, largest, -1},
		{widest, 0, 2 * largest, largest, 0},
		{entire, 0, 2 * api.Max, api.Max, 0},
	} {
		if mid := Mid(x.a); mid != x.mid {
			t.Errorf("Mid(%v) = %d, want %d", x.a, mid, x.mid)
		}
		if width := Width(x.a); width != x.width {
			t.Errorf("Width(%v) = %d, want %d", x.a, width, x.width)
		}
		if mag := Mag(x.a); mag != x.mag {
			t.Errorf("Mag(%v) = %d, want %d", x.a, mag, x.mag)
		}
		if sign := Sign(x.a); sign != x.sign {
			t.Errorf("Sign(%v) = %d, want %d", x.a, sign, x.sign)
		}
	}
}

// calls returns what all functions return for some arguments.
func calls(a, b api.Interval, x, y int64) (l []api.Interval, oks []bool, numbers []int64) {
	root, isRoot := Sqrt(a)
	common, isCommon := Intersect(a, b)
	l = []api.Interval{
		Entire(), New(x, y), Point(x), Add(a, b), Sub(a, b), Neg(a), Mul(a, b), Square(a), Div(a, b),
		MulRatio(a, x, y), root, Hull(a, b), common,
	}
	oks = []bool{Valid(a), IsEntire(a), isRoot, isCommon, Subset(a, b), Contains(a, x)}
	return l, oks, []int64{Mid(a), Width(a), Mag(a), int64(Sign(a))}
}

// TestNothingPanics calls all functions with all kinds of arguments: P1 of the
// document, and the same for the arguments that are not specified.
func TestNothingPanics(t *testing.T) {
	l := append(invalid(), zero, point(1), point(-1), between(-3, 5), widest, entire)
	numbers := []int64{0, 1, -1, 3, largest, -largest, api.Max, -api.Max, 1 << 30, 1<<30 + 1, -1<<30 - 1, 1 << 48, math.MaxInt64, math.MinInt64}
	for _, a := range l {
		for _, b := range l {
			for _, x := range numbers {
				for _, y := range numbers {
					calls(a, b, x, y)
				}
			}
		}
	}
}

// TestResultsDependOnArgumentsOnly calls the functions again after other calls: P2 of the document.
func TestResultsDependOnArgumentsOnly(t *testing.T) {
	l, oks, numbers := calls(between(-77, 555), between(3, 9), 2, 7)
	calls(entire, widest, -1<<31, 1<<31)
	calls(point(largest), zero, 5, 0)
	l2, oks2, numbers2 := calls(between(-77, 555), between(3, 9), 2, 7)
	for i := range l {
		if l[i] != l2[i] {
			t.Errorf("interval %d: first %v, then %v", i, l[i], l2[i])
		}
	}
	for i := range oks {
		if oks[i] != oks2[i] {
			t.Errorf("bool %d: first %t, then %t", i, oks[i], oks2[i])
		}
	}
	for i := range numbers {
		if numbers[i] != numbers2[i] {
			t.Errorf("number %d: first %d, then %d", i, numbers[i], numbers2[i])
		}
	}
}

// TestImports checks that the package imports no other layers than fixed.
func TestImports(t *testing.T) {
	files, err := filepath.Glob("*.go")
	if err != nil || len(files) == 0 {
		t.Fatal("no files", err)
	}
	for _, name := range files {
		if strings.HasSuffix(name, "_test.go") {
			continue
		}
		file, err := parser.ParseFile(token.NewFileSet(), name, nil, parser.ImportsOnly)
		if err != nil {
			t.Fatal(err)
		}
		for _, spec := range file.Imports {
			if path := spec.Path.Value; path != `"armillary/api"` && path != `"armillary/fixed"` {
				t.Errorf("%s imports %s", name, path)
			}
		}
	}
}
