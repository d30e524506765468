package box

import (
	"go/parser"
	"go/token"
	"math"
	"path/filepath"
	"slices"
	"strings"
	"testing"

	"armillary/api"
)

// Tests of P3.1: the functions behave as C1 to C5 say.

const (
	one     = api.One
	largest = api.Max - 1
)

var (
	entire = between(-api.Max, api.Max)
	widest = between(-largest, largest)
)

func between(lo, hi int64) api.Interval { return api.Interval{Lo: lo, Hi: hi} }

func point(x int64) api.Interval { return between(x, x) }

// of returns the box with the given coordinates.
func of(l ...api.Interval) []api.Interval { return l }

// at returns the point with the given coordinates.
func at(l ...int64) []int64 { return l }

// six returns the box of six equal coordinates.
func six(a api.Interval) []api.Interval { return slices.Repeat(of(a), 6) }

// except returns a box with another interval at coordinate k.
func except(b []api.Interval, k int, a api.Interval) []api.Interval {
	b = slices.Clone(b)
	b[k] = a
	return b
}

// invalid returns slices of intervals that are no valid boxes.
func invalid() [][]api.Interval {
	l := [][]api.Interval{nil, of(), slices.Repeat(of(between(1, 2)), 7), slices.Repeat(of(entire), 7), slices.Repeat(of(point(0)), 100)}
	for _, a := range []api.Interval{
		between(1, 0), between(largest, -largest), between(api.Max, -api.Max),
		between(0, api.Max), between(-api.Max, 0), between(-api.Max, largest), between(-largest, api.Max),
		point(api.Max), point(-api.Max), between(-api.Max-1, api.Max), between(-api.Max, api.Max+1),
		between(0, 1<<32), between(1<<32, 1<<32), between(1<<40, 1<<41), between(math.MinInt64, math.MaxInt64),
		between(math.MaxInt64, math.MinInt64), point(math.MinInt64), point(math.MaxInt64),
	} {
		l = append(l, of(a), of(a, point(0)), of(point(0), a), of(entire, a, entire), six(a))
		for k := range 6 {
			l = append(l, except(six(between(-1, 1)), k, a))
		}
	}
	return l
}

func TestValid(t *testing.T) {
	for _, a := range []api.Interval{point(0), between(-5, 9), point(largest), point(-largest), between(0, largest), widest, entire} {
		for n := 1; n <= 6; n++ {
			if b := slices.Repeat(of(a), n); !Valid(b) {
				t.Errorf("Valid(%v) = false", b)
			}
		}
		for k := range 6 {
			if b := except(six(point(1)), k, a); !Valid(b) {
				t.Errorf("Valid(%v) = false", b)
			}
		}
	}
	for _, b := range invalid() {
		if Valid(b) {
			t.Errorf("Valid(%v) = true", b)
		}
	}
}

func TestPoint(t *testing.T) {
	for _, x := range []struct {
		l    []int64
		want []api.Interval
	}{
		{at(0), of(point(0))},
		{at(largest, -largest), of(point(largest), point(-largest))},
		{at(3, -4, 5, -6, 7, -8), of(point(3), point(-4), point(5), point(-6), point(7), point(-8))},
	} {
		if b := Point(x.l); !slices.Equal(b, x.want) {
			t.Errorf("Point(%v) = %v, want %v", x.l, b, x.want)
		}
	}
}

func TestContains(t *testing.T) {
	for _, x := range []struct {
		b    []api.Interval
		l    []int64
		want bool
	}{
		{of(between(-1, 2)), at(-1), true},
		{of(between(-1, 2)), at(2), true},
		{of(between(-1, 2)), at(-2), false},
		{of(between(-1, 2)), at(3), false},
		{of(point(5)), at(5), true},
		{of(point(5)), at(4), false},
		{of(between(0, 2), between(0, 5)), at(2, 0), true},
		{of(between(0, 2), between(0, 5)), at(0, 6), false},
		{of(between(0, 2), between(0, 5)), at(-1, 5), false},
		{of(between(0, 2), between(0, 5)), at(3, 6), false},
		{of(entire, between(0, 5)), at(largest, 5), true},
		{of(entire, between(0, 5)), at(-largest, 6), false},
		{six(entire), at(largest, -largest, 0, 1, -1, 7), true},
		{six(widest), at(largest, -largest, 0, 1, -1, 7), true},
		{six(point(largest)), at(largest, largest, largest, largest, largest, largest), true},
		{six(point(largest)), at(largest, largest, largest, largest, largest, largest-1), false},
	} {
		if got := Contains(x.b, x.l); got != x.want {
			t.Errorf("Contains(%v, %v) = %t", x.b, x.l, got)
		}
	}
	for k := range 6 {
		l := at(1, 1, 1, 1, 1, 1)
		if !Contains(six(between(0, 1)), l) {
			t.Errorf("%v is not contained", l)
		}
		l[k] = 2
		if Contains(six(between(0, 1)), l) {
			t.Errorf("%v is contained", l)
		}
	}
}

func TestSubset(t *testing.T) {
	for _, x := range []struct {
		a, b []api.Interval
		want bool
	}{
		{of(between(1, 2)), of(between(1, 2)), true},
		{of(between(1, 2)), of(between(0, 2)), true},
		{of(between(1, 2)), of(between(1, 3)), true},
		{of(between(1, 2)), of(between(2, 3)), false},
		{of(between(1, 2)), of(between(0, 1)), false},
		{of(between(1, 2)), of(point(1)), false},
		{of(point(1)), of(between(1, 2)), true},
		{of(point(3)), of(between(1, 2)), false},
		{of(between(1, 2)), of(entire), true},
		{of(entire), of(entire), true},
		{of(entire), of(widest), false},
		{of(widest), of(entire), true},
		{of(between(1, 2), entire), of(between(1, 2), entire), true},
		{of(between(1, 2), between(5, 6)), of(between(1, 2), entire), true},
		{of(between(1, 2), entire), of(between(1, 2), between(5, 6)), false},
		{six(between(-1, 1)), six(entire), true},
		{six(entire), six(entire), true},
		{six(point(0)), six(point(0)), true},
	} {
		if got := Subset(x.a, x.b); got != x.want {
			t.Errorf("Subset(%v, %v) = %t", x.a, x.b, got)
		}
	}
	for k := range 6 {
		if b := except(six(between(0, 5)), k, between(1, 5)); Subset(six(between(0, 5)), b) || !Subset(b, six(between(0, 5))) {
			t.Errorf("%v: Subset is wrong at coordinate %d", b, k)
		}
	}
}

// TestOtherDimensions: the document leaves these results open, but no point or
// box of one dimension lies in a box of another.
func TestOtherDimensions(t *testing.T) {
	for _, b := range [][]api.Interval{of(between(0, 2)), six(between(0, 2)), of(entire, entire, entire)} {
		if Contains(b, at(1, 1)) || Subset(of(point(1), point(1)), b) {
			t.Errorf("%v contains what has two coordinates", b)
		}
	}
}

func TestHull(t *testing.T) {
	for _, x := range []struct{ a, b, want []api.Interval }{
		{of(between(1, 2)), of(between(4, 5)), of(between(1, 5))},
		{of(point(-largest)), of(point(largest)), of(widest)},
		{of(between(0, 9)), of(point(3)), of(between(0, 9))},
		{of(point(3)), of(point(3)), of(point(3))},
		{of(between(-5, 1), between(2, 3)), of(between(0, 4), between(-7, 2)), of(between(-5, 4), between(-7, 3))},
		{of(between(1, 2), entire), of(between(4, 5), between(1, 2)), of(between(1, 5), entire)},
		{of(between(1, 2), between(1, 2)), of(entire, between(3, 3)), of(entire, between(1, 3))},
		{six(entire), six(point(1)), six(entire)},
		{six(between(-3, -1)), six(between(2, 7)), six(between(-3, 7))},
	} {
		for range 2 {
			if got := Hull(x.a, x.b); !slices.Equal(got, x.want) {
				t.Errorf("Hull(%v, %v) = %v, want %v", x.a, x.b, got, x.want)
			}
			x.a, x.b = x.b, x.a
		}
	}
}

func TestIntersect(t *testing.T) {
	for _, x := range []struct{ a, b, want []api.Interval }{
		{of(between(1, 4)), of(between(3, 9)), of(between(3, 4))},
		{of(between(1, 4)), of(between(4, 9)), of(point(4))},
		{of(between(1, 4)), of(between(5, 9)), nil},
		{of(point(4)), of(point(4)), of(point(4))},
		{of(point(4)), of(point(5)), nil},
		{of(entire), of(point(largest)), of(point(largest))},
		{of(entire), of(entire), of(entire)},
		{of(entire), of(widest), of(widest)},
		{of(between(0, 2), between(0, 2)), of(between(2, 3), between(2, 3)), of(point(2), point(2))},
		{of(between(0, 2), between(0, 2)), of(between(3, 4), between(0, 2)), nil},
		{of(between(0, 2), between(0, 2)), of(between(0, 2), between(3, 4)), nil},
		{of(entire, between(0, 2)), of(between(-1, 1), entire), of(between(-1, 1), between(0, 2))},
		{of(entire, between(0, 2)), of(entire, between(3, 4)), nil},
		{six(entire), six(between(-7, 8)), six(between(-7, 8))},
		{six(between(0, 9)), six(between(9, 10)), six(point(9))},
	} {
		for range 2 {
			if got, ok := Intersect(x.a, x.b); !slices.Equal(got, x.want) || ok != (x.want != nil) {
				t.Errorf("Intersect(%v, %v) = %v, %t, want %v", x.a, x.b, got, ok, x.want)
			}
			x.a, x.b = x.b, x.a
		}
	}
	for k := range 6 {
		b := except(six(between(0, 2)), k, point(3))
		if got, ok := Intersect(six(between(0, 2)), b); ok || got != nil {
			t.Errorf("the intersection with %v is %v, %t", b, got, ok)
		}
	}
}

func TestMid(t *testing.T) {
	for _, x := range []struct {
		b    []api.Interval
		want []int64
	}{
		{of(between(0, 5)), at(2)},
		{of(between(-5, 0)), at(-3)},
		{of(between(1, 2)), at(1)},
		{of(between(-2, -1)), at(-2)},
		{of(entire), at(0)},
		{of(point(largest), point(-largest)), at(largest, -largest)},
		{of(between(largest-1, largest), between(-largest, 1-largest), widest), at(largest-1, -largest, 0)},
		{of(between(0, 2), entire, point(7), between(-1, 0), between(-1, 2), between(3, 8)), at(1, 0, 7, -1, 0, 5)},
	} {
		if got := Mid(x.b); !slices.Equal(got, x.want) {
			t.Errorf("Mid(%v) = %v, want %v", x.b, got, x.want)
		}
	}
}

func TestWidths(t *testing.T) {
	for _, x := range []struct {
		b     []api.Interval
		width int64
		axis  int
	}{
		{of(point(5)), 0, 0},
		{of(between(-3, 4)), 7, 0},
		{of(entire), 2 * api.Max, 0},
		{of(widest), 2 * largest, 0},
		{of(widest, entire), 2 * api.Max, 1},
		{of(between(0, 1), entire, entire), 2 * api.Max, 1},
		{of(point(1), point(2), point(3)), 0, 0},
		{of(point(1), between(5, 7), between(-1, 1)), 2, 1},
		{of(between(0, 1), between(5, 7), between(-1, 2)), 3, 2},
		{of(between(0, 9), between(5, 7), between(-1, 2)), 9, 0},
		{of(between(0, 9), between(5, 14), between(-9, 0)), 9, 0},
		{six(between(1, 4)), 3, 0},
		{six(entire), 2 * api.Max, 0},
	} {
		if got := Width(x.b); got != x.width {
			t.Errorf("Width(%v) = %d, want %d", x.b, got, x.width)
		}
		if got := WidestAxis(x.b); got != x.axis {
			t.Errorf("WidestAxis(%v) = %d, want %d", x.b, got, x.axis)
		}
	}
	for k := range 6 {
		for m := k; m < 6; m++ {
			b := except(except(six(between(1, 4)), k, between(-7, 0)), m, between(3, 10))
			if Width(b) != 7 || WidestAxis(b) != k {
				t.Errorf("%v has the width %d at %d", b, Width(b), WidestAxis(b))
			}
		}
	}
}

func TestBisect(t *testing.T) {
	for _, x := range []struct {
		b            []api.Interval
		k            int
		lower, upper []api.Interval
	}{
		{of(between(0, 4)), 0, of(between(0, 2)), of(between(2, 4))},
		{of(between(0, 5)), 0, of(between(0, 2)), of(between(2, 5))},
		{of(between(-5, 0)), 0, of(between(-5, -3)), of(between(-3, 0))},
		{of(between(1, 2)), 0, of(point(1)), of(between(1, 2))},
		{of(between(-2, -1)), 0, of(point(-2)), of(between(-2, -1))},
		{of(point(7)), 0, of(point(7)), of(point(7))},
		{of(widest), 0, of(between(-largest, 0)), of(between(0, largest))},
		{of(between(largest-1, largest)), 0, of(point(largest - 1)), of(between(largest-1, largest))},
		{of(between(-largest, 1-largest)), 0, of(point(-largest)), of(between(-largest, 1-largest))},
		{of(entire, between(0, 4)), 1, of(entire, between(0, 2)), of(entire, between(2, 4))},
		{of(between(0, 4), entire), 0, of(between(0, 2), entire), of(between(2, 4), entire)},
	} {
		lower, upper, err := Bisect(x.b, x.k)
		if err != api.OK || !slices.Equal(lower, x.lower) || !slices.Equal(upper, x.upper) {
			t.Errorf("Bisect(%v, %d) = %v, %v, %d, want %v and %v", x.b, x.k, lower, upper, err, x.lower, x.upper)
		}
	}
	for k := range 6 {
		b := six(between(-2, 8))
		lower, upper, err := Bisect(b, k)
		if err != api.OK || !slices.Equal(lower, except(b, k, between(-2, 3))) || !slices.Equal(upper, except(b, k, between(3, 8))) {
			t.Errorf("Bisect(%v, %d) = %v, %v, %d", b, k, lower, upper, err)
		}
	}
}

func TestBisectFails(t *testing.T) {
	fails := func(b []api.Interval, k int) {
		if lower, upper, err := Bisect(b, k); lower != nil || upper != nil || err != api.ErrArg {
			t.Errorf("Bisect(%v, %d) = %v, %v, %d", b, k, lower, upper, err)
		}
	}
	for _, b := range [][]api.Interval{of(between(0, 4)), of(between(0, 4), point(3)), six(between(0, 4)), six(entire)} {
		for _, k := range []int{-1, -2, math.MinInt, len(b), len(b) + 1, 6, 7, math.MaxInt} {
			fails(b, k)
		}
	}
	fails(of(entire), 0)
	fails(of(entire, between(0, 4)), 0)
	for k := range 6 {
		fails(except(six(between(0, 4)), k, entire), k)
		fails(six(entire), k)
	}
}

func TestInflate(t *testing.T) {
	for _, x := range []struct {
		b    []api.Interval
		by   int64
		want []api.Interval
	}{
		{of(point(0)), 1, of(between(-1, 1))},
		{of(between(-3, 4)), 0, of(between(-3, 4))},
		{of(between(-3, 4), entire, point(8)), 2, of(between(-5, 6), entire, between(6, 10))},
		{of(point(0)), largest, of(widest)},
		{of(between(0, 1)), largest, of(entire)},
		{of(between(-1, 0)), largest, of(entire)},
		{of(widest), 0, of(widest)},
		{of(widest), 1, of(entire)},
		{of(widest), largest, of(entire)},
		{of(between(0, largest-5)), 5, of(between(-5, largest))},
		{of(between(0, largest-5)), 6, of(entire)},
		{of(between(5-largest, 0)), 5, of(between(-largest, 5))},
		{of(between(5-largest, 0)), 6, of(entire)},
		{of(point(largest), point(-largest)), 0, of(point(largest), point(-largest))},
		{of(point(largest), point(-largest)), largest, of(entire, entire)},
		{of(between(-largest, -largest), point(0)), 1, of(entire, between(-1, 1))},
		{six(entire), largest, six(entire)},
		{six(entire), 0, six(entire)},
		{six(between(-1, 3)), 7, six(between(-8, 10))},
	} {
		if got := Inflate(x.b, x.by); !slices.Equal(got, x.want) {
			t.Errorf("Inflate(%v, %d) = %v, want %v", x.b, x.by, got, x.want)
		}
	}
}

func TestSquaredDistance(t *testing.T) {
	for _, x := range []struct {
		a, b []api.Interval
		want api.Interval
	}{
		{of(between(0, one)), of(between(3*one, 5*one)), between(4*one, 25*one)},
		{of(between(-one, one)), of(between(0, 2*one)), between(0, 9*one)},
		{of(between(0, one)), of(between(one, 2*one)), between(0, 4*one)},
		{of(point(7)), of(point(7)), point(0)},
		{of(point(0)), of(point(1)), between(0, 1)},
		{of(point(0)), of(point(256)), point(1)},
		{of(point(0)), of(point(257)), between(1, 2)},
		{of(point(0), point(0)), of(point(3*one), point(4*one)), point(25 * one)},
		{of(point(0), point(0)), of(point(1), point(1)), between(0, 2)},
		{six(point(0)), six(point(1)), between(0, 6)},
		{six(point(0)), six(between(one, 2*one)), between(6*one, 24*one)},
		{six(between(-one, one)), six(between(-one, one)), between(0, 24*one)},
		// The squares of 11863283 and of one more lie below and beyond 2^31 units.
		{of(point(0)), of(point(11863283)), between(2147483574, 2147483575)},
		{of(point(0)), of(point(11863284)), entire},
		{of(point(-11863283)), of(point(0)), between(2147483574, 2147483575)},
		{of(point(-11863284)), of(point(0)), entire},
		{of(point(0)), of(between(0, 11863284)), entire},
		{of(point(11863283), point(2048)), of(point(0), point(0)), between(2147483574+64, largest-8)},
		{of(point(11863283), point(2172)), of(point(0), point(0)), between(2147483574+71, largest)},
		{of(point(11863283), point(2173)), of(point(0), point(0)), entire},
		{of(point(largest)), of(point(0)), entire},
		{of(point(largest)), of(point(-largest)), entire},
		{of(point(largest)), of(point(largest)), point(0)},
		{of(point(-largest)), of(between(-largest, 256-largest)), between(0, 1)},
		{of(between(0, largest)), of(between(-1, 0)), entire},
		{of(entire), of(point(0)), entire},
		{of(point(0), point(3)), of(point(0), entire), entire},
		{of(entire, point(3)), of(point(0), point(3)), entire},
		{six(entire), six(entire), entire},
	} {
		for range 2 {
			if got := SquaredDistance(x.a, x.b); got != x.want {
				t.Errorf("SquaredDistance(%v, %v) = %v, want %v", x.a, x.b, got, x.want)
			}
			x.a, x.b = x.b, x.a
		}
	}
	for k := range 6 {
		b := except(six(between(0, 9)), k, entire)
		if got := SquaredDistance(b, six(point(0))); got != entire {
			t.Errorf("the squared distance of %v is %v", b, got)
		}
	}
}

func TestSeparated(t *testing.T) {
	for _, x := range []struct {
		a, b []api.Interval
		d    int64
		want bool
	}{
		{of(between(0, one)), of(between(3*one, 5*one)), one, true},
		{of(between(0, one)), of(between(3*one, 5*one)), 2*one - 1, true},
		{of(between(0, one)), of(between(3*one, 5*one)), 2 * one, false},
		{of(between(0, one)), of(between(3*one, 5*one)), 0, true},
		{of(point(0), point(0)), of(point(3*one), point(4*one)), 5*one - 1, true},
		{of(point(0), point(0)), of(point(3*one), point(4*one)), 5 * one, false},
		{of(point(0), point(0)), of(point(3*one), point(4*one)), 5*one + 1, false},
		{of(point(0)), of(point(0)), 0, false},
		{of(between(0, 5)), of(between(5, 9)), 0, false},
		// The squares of 255 and of 256 units are less than a unit, and a unit.
		{of(point(0)), of(point(255)), 0, false},
		{of(point(0)), of(point(256)), 0, true},
		{of(point(0)), of(point(256)), 1, false},
		{of(point(0)), of(point(363)), 256, true},
		{of(point(0)), of(point(362)), 256, false},
		{of(point(0)), of(point(363)), 257, false},
		{of(point(0)), of(point(444)), 257, true},
		{of(point(0)), of(point(443)), 257, false},
		{of(point(0)), of(point(11863283)), 11863282, true},
		{of(point(0)), of(point(11863283)), 11863283, false},
		{of(point(0)), of(point(11863284)), 0, false},
		{of(point(0)), of(point(11863283)), largest, false},
		{of(point(0)), of(point(largest)), largest, false},
		{of(entire), of(point(0)), 0, false},
		{of(point(0), entire), of(point(9*one), entire), 0, false},
		{of(entire, point(0)), of(point(0), point(9*one)), 0, false},
		{six(point(0)), six(point(one)), 2*one + 29457, true},
		{six(point(0)), six(point(one)), 2*one + 29458, false},
		{six(between(0, one)), six(between(one, 2*one)), 0, false},
		{six(entire), six(entire), 0, false},
	} {
		for range 2 {
			if got := Separated(x.a, x.b, x.d); got != x.want {
				t.Errorf("Separated(%v, %v, %d) = %t", x.a, x.b, x.d, got)
			}
			x.a, x.b = x.b, x.a
		}
	}
	for k := range 6 {
		b := except(six(between(0, one)), k, between(4*one, 5*one))
		if !Separated(six(between(0, one)), b, 3*one-1) || Separated(six(between(0, one)), b, 3*one) {
			t.Errorf("%v is not separated at coordinate %d only", b, k)
		}
	}
}

// calls calls every function, and returns the results.
func calls(a, b []api.Interval, l []int64, x int64, k int) (boxes [][]api.Interval, others []int64) {
	common, met := Intersect(a, b)
	lower, upper, err := Bisect(a, k)
	boxes = [][]api.Interval{Point(l), Hull(a, b), common, lower, upper, Inflate(a, x), of(SquaredDistance(a, b))}
	others = append(Mid(a), Width(a), int64(WidestAxis(a)), int64(err))
	for _, is := range []bool{Valid(a), Contains(a, l), Subset(a, b), met, Separated(a, b, x)} {
		if is {
			others = append(others, 1)
		} else {
			others = append(others, 0)
		}
	}
	return boxes, others
}

func TestNothingPanics(t *testing.T) {
	l := append(invalid(), of(point(0)), of(entire), of(between(-1, 1), entire), six(widest))
	points := [][]int64{nil, at(0), at(math.MinInt64, math.MaxInt64), make([]int64, 7)}
	for _, a := range l {
		for _, b := range l {
			for i, x := range []int64{0, 1, -1, largest, -largest, api.Max, 1 << 40, math.MaxInt64, math.MinInt64} {
				calls(a, b, points[i%len(points)], x, i-1)
			}
		}
	}
}

// TestResultsDependOnArgumentsOnly calls the functions again after other calls: P2 of the document.
func TestResultsDependOnArgumentsOnly(t *testing.T) {
	a, b, l := of(between(-77, 555), between(3, 9)), of(between(1, 600), entire), at(0, 4)
	boxes, others := calls(a, b, l, 20, 1)
	calls(six(entire), six(widest), at(1, 2, 3, 4, 5, 6), -1, 7)
	boxes2, others2 := calls(a, b, l, 20, 1)
	if !slices.EqualFunc(boxes, boxes2, slices.Equal) || !slices.Equal(others, others2) {
		t.Errorf("first %v, %v, then %v, %v", boxes, others, boxes2, others2)
	}
}

// TestResultsAreNewMemory overwrites the results: neither the arguments nor another result may change.
func TestResultsAreNewMemory(t *testing.T) {
	a, b, l := six(between(-77, 555)), six(between(1, 600)), at(0, 4, 1, 2, 3, 4)
	boxes, _ := calls(a, b, l, 0, 1)
	mid := Mid(a)
	for i, x := range boxes {
		// A slice may have room beyond its end, which belongs to it as well.
		x = x[:cap(x)]
		for k := range x {
			x[k] = point(int64(i) - 1000)
		}
	}
	for k := range mid {
		mid[k] = -1
	}
	for i, x := range boxes {
		if slices.ContainsFunc(x, func(a api.Interval) bool { return a != point(int64(i)-1000) }) {
			t.Errorf("box %d was overwritten: %v", i, x)
		}
	}
	if !slices.Equal(a, six(between(-77, 555))) || !slices.Equal(b, six(between(1, 600))) || !slices.Equal(l, at(0, 4, 1, 2, 3, 4)) {
		t.Error("an argument has changed:", a, b, l)
	}
}

// TestImports checks that the package imports no other layers than fixed and interval.
func TestImports(t *testing.T) {
	files, err := filepath.Glob("*.go")
	if err != nil || len(files) == 0 {
		t.Fatal("no files", err)
	}
	allowed := []string{`"armillary/api"`, `"armillary/fixed"`, `"armillary/interval"`}
	for _, name := range files {
		if strings.HasSuffix(name, "_test.go") {
			continue
		}
		file, err := parser.ParseFile(token.NewFileSet(), name, nil, parser.ImportsOnly)
		if err != nil {
			t.Fatal(err)
		}
		for _, spec := range file.Imports {
			if path := spec.Path.Value; strings.HasPrefix(path, `"armillary`) && !slices.Contains(allowed, path) {
				t.Errorf("%s imports %s", name, path)
			}
		}
	}
}
