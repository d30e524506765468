package poly

import (
	"go/parser"
	"go/token"
	"math"
	"path/filepath"
	"slices"
	"strings"
	"testing"

	"armillary/api"
	"armillary/interval"
)

// Tests of P5.1: the functions return what E1 to E4 say.

const (
	one     = api.One
	largest = api.Max - 1
)

var entire = api.Interval{Lo: -api.Max, Hi: api.Max}

func between(lo, hi int64) api.Interval { return api.Interval{Lo: lo, Hi: hi} }

func point(x int64) api.Interval { return between(x, x) }

// box returns a box with the given coordinates.
func box(l ...api.Interval) []api.Interval { return l }

// term returns a term with the given coefficient and the first exponents.
func term(c int64, e ...uint8) api.Term {
	t := api.Term{C: c}
	copy(t.E[:], e)
	return t
}

func terms(l ...api.Term) []api.Term { return l }

// monomials returns all exponents of degree 6 or less, in order.
func monomials() []exponents {
	var l []exponents
	var extend func(e exponents, i, rest int)
	extend = func(e exponents, i, rest int) {
		if i == len(e) {
			l = append(l, e)
			return
		}
		for n := 0; n <= rest; n++ {
			e[i] = uint8(n)
			extend(e, i+1, rest-n)
		}
	}
	extend(exponents{}, 0, api.MaxDegree)
	return l
}

// all returns the polynomial with equal coefficients and the given exponents.
func all(c int64, l []exponents) []api.Term {
	var p []api.Term
	for _, e := range l {
		p = append(p, api.Term{C: c, E: e})
	}
	return p
}

// invalid returns slices of terms that are no valid polynomials.
func invalid() [][]api.Term {
	m := monomials()
	return [][]api.Term{
		{term(0)}, {term(0, 1)}, {term(1), term(0, 1)}, {term(0), term(1, 1)}, {term(1), term(0, 0, 1), term(1, 1)},
		{term(api.Max)}, {term(-api.Max)}, {term(1), term(api.Max, 1)}, {term(1), term(-api.Max, 1)},
		{term(math.MaxInt64)}, {term(math.MinInt64)}, {term(1), term(1<<32+1, 1)}, {term(1), term(-1<<32-1, 1)},
		{term(1, 7)}, {term(1, 0, 0, 0, 0, 0, 7)}, {term(1, 4, 3)}, {term(1, 1, 1, 1, 1, 1, 2)}, {term(1, 255)}, {term(1, 250, 6)},
		{term(1, 255, 255, 255, 255, 255, 255)}, {term(1, 64, 64, 64, 64, 0, 0)}, {term(1), term(1, 6, 1)}, {term(1, 3, 4), term(1, 6)},
		{term(1), term(1)}, {term(1), term(2)}, {term(1), term(-1)}, {term(1, 2, 3), term(1, 2, 3)}, {term(1), term(1, 1), term(1, 1)},
		{term(1, 1), term(1)}, {term(1, 1), term(1, 0, 1)}, {term(1, 0, 0, 0, 0, 0, 2), term(1, 0, 0, 0, 0, 0, 1)},
		{term(1), term(1, 2), term(1, 1)}, {term(1, 0, 5), term(1, 0, 4, 1)}, {term(1, 2), term(1, 1, 4)},
		all(1, m[:api.MaxTerms+1]), all(1, m), all(-1, m[len(m)-api.MaxTerms-1:]),
	}
}

// valid returns valid polynomials.
func valid() [][]api.Term {
	m := monomials()
	return [][]api.Term{
		nil, {}, {term(1)}, {term(-1)}, {term(largest)}, {term(-largest)}, {term(1, 1)}, {term(largest, 6)}, {term(-largest, 0, 0, 0, 0, 0, 6)},
		{term(1, 1, 1, 1, 1, 1, 1)}, {term(1), term(1, 1)}, {term(1, 0, 1), term(1, 1)}, {term(1, 0, 4, 1), term(1, 0, 5)}, {term(1, 1, 4), term(1, 2)},
		{term(5), term(5, 0, 6), term(-5, 1), term(5, 1, 0, 0, 0, 0, 1), term(5, 1, 5)},
		all(1, m[:api.MaxTerms]), all(-largest, m[len(m)-api.MaxTerms:]),
	}
}

func TestValid(t *testing.T) {
	for _, p := range valid() {
		if !Valid(p) {
			t.Errorf("Valid(%v) = false", p)
		}
	}
	for _, p := range invalid() {
		if Valid(p) {
			t.Errorf("Valid(%v) = true", p)
		}
	}
}

func TestConst(t *testing.T) {
	for _, c := range []int64{1, -1, 5, one, -one, largest, -largest} {
		if p := Const(c); !slices.Equal(p, terms(term(c))) {
			t.Errorf("Const(%d) = %v", c, p)
		}
	}
	if p := Const(0); len(p) != 0 {
		t.Errorf("Const(0) = %v", p)
	}
}

func TestVar(t *testing.T) {
	want := [][]api.Term{
		{term(one, 1)}, {term(one, 0, 1)}, {term(one, 0, 0, 1)},
		{term(one, 0, 0, 0, 1)}, {term(one, 0, 0, 0, 0, 1)}, {term(one, 0, 0, 0, 0, 0, 1)},
	}
	for i, p := range want {
		if got := Var(i); !slices.Equal(got, p) {
			t.Errorf("Var(%d) = %v", i, got)
		}
	}
	for _, i := range []int{-1, -2, 6, 7, 256, 1 << 32, -1 << 32, math.MinInt, math.MaxInt} {
		if got := Var(i); len(got) != 0 {
			t.Errorf("Var(%d) = %v", i, got)
		}
	}
}

func TestDegree(t *testing.T) {
	for _, x := range []struct {
		p    []api.Term
		want int
	}{
		{nil, -1}, {terms(), -1}, {terms(term(5)), 0}, {terms(term(0)), 0}, {terms(term(1, 1)), 1}, {terms(term(0, 3, 2)), 5},
		{terms(term(1, 0, 0, 0, 0, 0, 1)), 1}, {terms(term(1, 1, 1, 1, 1, 1, 1)), 6}, {terms(term(1, 0, 6)), 6},
		{terms(term(5), term(1, 0, 6), term(1, 1)), 6}, {terms(term(5, 3), term(1), term(1, 1)), 3},
		{terms(term(5), term(1, 1), term(-1, 2, 2)), 4}, {terms(term(1), term(1)), 0},
		{terms(term(1, 4, 3)), 7}, {terms(term(1, 255)), 255}, {terms(term(1, 128, 128)), 256},
		{terms(term(math.MinInt64, 255, 255, 255, 255, 255, 255), term(1)), 1530},
		{all(1, monomials()), 6},
	} {
		if got := Degree(x.p); got != x.want {
			t.Errorf("Degree(%v) = %d, want %d", x.p, got, x.want)
		}
	}
}

// result is a polynomial with its remainder.
type result struct {
	p []api.Term
	r api.Interval
}

func of(p []api.Term, r api.Interval) result { return result{p, r} }

// exact returns a result with these terms and no remainder.
func exact(l ...api.Term) result { return result{l, api.Interval{}} }

func failure() result { return result{nil, entire} }

func (a result) equals(b result) bool { return slices.Equal(a.p, b.p) && a.r == b.r }

func (a result) valid() bool { return Valid(a.p) && interval.Valid(a.r) }

func check(t *testing.T, call string, got, want result) {
	t.Helper()
	if !got.equals(want) {
		t.Errorf("%s = %v, want %v", call, got, want)
	}
	if !got.valid() {
		t.Errorf("%s: %v is not valid", call, got)
	}
}

func TestAdd(t *testing.T) {
	m := monomials()
	hundred := all(3, m[:100])
	for _, x := range []struct {
		a, b []api.Term
		want result
	}{
		{nil, nil, exact()},
		{terms(), terms(term(5)), exact(term(5))},
		{terms(term(5, 1)), nil, exact(term(5, 1))},
		{terms(term(2)), terms(term(3)), exact(term(5))},
		{terms(term(2)), terms(term(-2)), exact()},
		{terms(term(one), term(one, 1)), terms(term(one), term(-one, 1)), exact(term(2 * one))},
		{terms(term(1), term(2, 1)), terms(term(3, 0, 1)), exact(term(1), term(3, 0, 1), term(2, 1))},
		{terms(term(3, 0, 1)), terms(term(1), term(2, 1)), exact(term(1), term(3, 0, 1), term(2, 1))},
		{terms(term(1), term(2, 1), term(3, 2)), terms(term(4), term(-2, 1), term(5, 2)), exact(term(5), term(8, 2))},
		{terms(term(1), term(2, 1), term(3, 2)), terms(term(-1), term(-2, 1), term(-3, 2)), exact()},
		{terms(term(1, 0, 0, 0, 0, 0, 6), term(4, 6)), terms(term(2, 0, 0, 0, 0, 6)), exact(term(1, 0, 0, 0, 0, 0, 6), term(2, 0, 0, 0, 0, 6), term(4, 6))},
		{terms(term(1, 1, 1, 1, 1, 1, 1)), terms(term(6, 1, 1, 1, 1, 1, 1)), exact(term(7, 1, 1, 1, 1, 1, 1))},
		{terms(term(largest-1, 1)), terms(term(1, 1)), exact(term(largest, 1))},
		{terms(term(largest, 1)), terms(term(1, 1)), failure()},
		{terms(term(1-largest, 1)), terms(term(-1, 1)), exact(term(-largest, 1))},
		{terms(term(-largest, 1)), terms(term(-1, 1)), failure()},
		{terms(term(largest)), terms(term(largest)), failure()},
		{terms(term(-largest)), terms(term(-largest)), failure()},
		{terms(term(largest)), terms(term(-largest)), exact()},
		{terms(term(1), term(largest, 2)), terms(term(1, 1), term(1, 2), term(1, 3)), failure()},
		// A sum has no remainder that could be out of range.
		{terms(term(largest), term(largest, 0, 1)), terms(term(largest, 1)), exact(term(largest), term(largest, 0, 1), term(largest, 1))},
		{all(3, m[:60]), all(3, m[60:100]), exact(hundred...)},
		{all(3, m[60:100]), all(3, m[:60]), exact(hundred...)},
		{all(1, m[:100]), all(2, m[:100]), exact(hundred...)},
		{all(3, m[:60]), all(3, m[60:101]), failure()},
		{all(3, m[:100]), all(3, m[100:101]), failure()},
		{all(3, m[100:101]), all(3, m[:100]), failure()},
		{all(3, m[1:101]), append(all(-3, m[100:101]), all(3, m[101:102])...), exact(append(all(3, m[1:100]), all(3, m[101:102])...)...)},
		{all(3, m[100:200]), all(3, m[:100]), failure()},
	} {
		check(t, "a sum", of(Add(x.a, x.b)), x.want)
	}
}

func TestScale(t *testing.T) {
	m := monomials()
	for _, x := range []struct {
		a    []api.Term
		c    int64
		want result
	}{
		{nil, 5, exact()},
		{nil, 0, exact()},
		{terms(term(5), term(-7, 1)), 0, exact()},
		{terms(term(5), term(-7, 1)), one, exact(term(5), term(-7, 1))},
		{terms(term(5), term(-7, 1)), -one, exact(term(-5), term(7, 1))},
		{terms(term(5), term(-7, 1)), 3 * one, exact(term(15), term(-21, 1))},
		{terms(term(3, 1)), one / 2, of(terms(term(1, 1)), between(-1, 1))},
		{terms(term(3)), one / 2, of(terms(term(1)), between(0, 1))},
		{terms(term(3, 2)), one / 2, of(terms(term(1, 2)), between(0, 1))},
		{terms(term(3, 2, 1)), one / 2, of(terms(term(1, 2, 1)), between(-1, 1))},
		{terms(term(3, 2, 0, 0, 0, 0, 4)), one / 2, of(terms(term(1, 2, 0, 0, 0, 0, 4)), between(0, 1))},
		{terms(term(3, 0, 0, 0, 0, 0, 1)), one / 2, of(terms(term(1, 0, 0, 0, 0, 0, 1)), between(-1, 1))},
		{terms(term(3, 1, 1)), one / 2, of(terms(term(1, 1, 1)), between(-1, 1))},
		{terms(term(-3, 1)), one / 2, of(terms(term(-2, 1)), between(-1, 1))},
		{terms(term(-3)), one / 2, of(terms(term(-2)), between(0, 1))},
		{terms(term(3)), -one / 2, of(terms(term(-2)), between(0, 1))},
		{terms(term(-3)), -one / 2, of(terms(term(1)), between(0, 1))},
		{terms(term(4), term(3, 2), term(4, 3), term(5, 5)), one / 2, of(terms(term(2), term(1, 2), term(2, 3), term(2, 5)), between(-1, 2))},
		// These coefficients round down to 0 and to -1.
		{terms(term(1)), 1, of(nil, between(0, 1))},
		{terms(term(1, 1)), one - 1, of(nil, between(-1, 1))},
		{terms(term(1), term(1, 1), term(1, 2), term(one, 3)), 1, of(terms(term(1, 3)), between(-1, 3))},
		{terms(term(-1)), 1, of(terms(term(-1)), between(0, 1))},
		{terms(term(1)), -1, of(terms(term(-1)), between(0, 1))},
		{terms(term(-1, 6)), -1, of(nil, between(0, 1))},
		{terms(term(largest)), one, exact(term(largest))},
		{terms(term(1 << 30)), 2*one - 1, exact(term(1<<31 - 1<<14))},
		{terms(term(1 << 30)), 2 * one, failure()},
		{terms(term(1 << 30)), -2 * one, failure()},
		{terms(term(2147450879, 1)), one + 1, of(terms(term(largest-1, 1)), between(-1, 1))},
		{terms(term(2147450880, 1)), one + 1, of(terms(term(largest, 1)), between(-1, 1))},
		{terms(term(2147450881, 1)), one + 1, failure()},
		// Rounded down, this coefficient is no number any more.
		{terms(term(-2147450879, 1)), one + 1, of(terms(term(-largest, 1)), between(-1, 1))},
		{terms(term(-2147450880, 1)), one + 1, failure()},
		{terms(term(1), term(largest, 1), term(1, 2)), largest, failure()},
		{terms(term(largest)), -largest, failure()},
		{all(2, m[:100]), one / 2, exact(all(1, m[:100])...)},
		{terms(term(2, 1, 1, 1, 1, 1, 1), term(2, 6)), one / 2, exact(term(1, 1, 1, 1, 1, 1, 1), term(1, 6))},
	} {
		check(t, "a multiple", of(Scale(x.a, x.c)), x.want)
	}
}

func TestTruncate(t *testing.T) {
	p := terms(term(5), term(7, 0, 2), term(-9, 2), term(4, 2, 1))
	full := all(one, monomials()[:100])
	for _, x := range []struct {
		a    []api.Term
		deg  int
		want result
	}{
		{nil, 3, exact()}, {nil, -3, exact()}, {nil, 9, exact()},
		{p, 3, exact(p...)}, {p, 4, exact(p...)}, {p, 6, exact(p...)}, {p, 7, exact(p...)}, {p, 1000, exact(p...)}, {p, math.MaxInt, exact(p...)},
		{p, 2, of(p[:3], between(-4, 4))},
		{p, 1, of(p[:1], between(-13, 11))},
		{p, 0, of(p[:1], between(-13, 11))},
		{p, -1, of(nil, between(-8, 16))},
		{p, math.MinInt, of(nil, between(-8, 16))},
		{terms(term(-5)), -1, of(nil, point(-5))},
		{terms(term(-5)), 0, exact(term(-5))},
		{terms(term(-5, 2, 4)), 5, of(nil, between(-5, 0))},
		{terms(term(5, 2, 4)), 5, of(nil, between(0, 5))},
		{terms(term(-5, 1, 5)), 5, of(nil, between(-5, 5))},
		{terms(term(5, 1, 5)), 5, of(nil, between(-5, 5))},
		{terms(term(5, 0, 0, 0, 0, 0, 6)), 6, exact(term(5, 0, 0, 0, 0, 0, 6))},
		{full, 6, exact(full...)},
		// The ends of these remainders are just numbers, and just not.
		{terms(term(largest-1, 0, 1), term(1, 1)), 0, of(nil, between(-largest, largest))},
		{terms(term(largest-1, 0, 1), term(2, 1)), 0, failure()},
		{terms(term(largest-1, 0, 1), term(2, 1)), 1, exact(term(largest-1, 0, 1), term(2, 1))},
		{terms(term(largest), term(-1, 2)), -1, of(nil, between(largest-1, largest))},
		{terms(term(largest), term(1, 2)), -1, failure()},
		{terms(term(-largest), term(1, 2)), -1, of(nil, between(-largest, 1-largest))},
		{terms(term(-largest), term(-1, 2)), -1, failure()},
		{terms(term(-largest), term(1, 1)), -1, failure()},
		{terms(term(largest), term(1, 1)), -1, failure()},
		{terms(term(largest, 2), term(-largest, 4)), 1, of(nil, between(-largest, largest))},
		{terms(term(largest, 2), term(1, 4)), 1, failure()},
		{terms(term(-largest, 2), term(-1, 4)), 1, failure()},
		{terms(term(7), term(largest, 2), term(1, 4)), 1, failure()},
	} {
		check(t, "a truncated polynomial", of(Truncate(x.a, x.deg)), x.want)
	}
}

func TestMul(t *testing.T) {
	plus, minus := terms(term(one), term(one, 1)), terms(term(one), term(-one, 1))
	for _, x := range []struct {
		a, b []api.Term
		deg  int
		want result
	}{
		{nil, nil, 6, exact()},
		{plus, nil, 6, exact()},
		{nil, plus, -1, exact()},
		{plus, minus, 6, exact(term(one), term(-one, 2))},
		{plus, minus, 2, exact(term(one), term(-one, 2))},
		{plus, minus, 1, of(terms(term(one)), between(-one, 0))},
		{plus, minus, 0, of(terms(term(one)), between(-one, 0))},
		{plus, minus, -1, of(nil, between(0, one))},
		{plus, minus, math.MinInt, of(nil, between(0, one))},
		{plus, minus, 7, exact(term(one), term(-one, 2))},
		{plus, minus, math.MaxInt, exact(term(one), term(-one, 2))},
		{plus, plus, 6, exact(term(one), term(2*one, 1), term(one, 2))},
		{plus, plus, 1, of(terms(term(one), term(2*one, 1)), between(0, one))},
		{plus, plus, 0, of(terms(term(one)), between(-2*one, 3*one))},
		{terms(term(2), term(3, 1)), terms(term(one), term(2*one, 0, 1)), 6, exact(term(2), term(4, 0, 1), term(3, 1), term(6, 1, 1))},
		{terms(term(2), term(3, 1)), terms(term(one), term(2*one, 0, 1)), 1, of(terms(term(2), term(4, 0, 1), term(3, 1)), between(-6, 6))},
		// Terms of degree 6, and products above it.
		{terms(term(one, 1, 1, 1)), terms(term(one, 0, 0, 0, 1, 1, 1)), 6, exact(term(one, 1, 1, 1, 1, 1, 1))},
		{terms(term(one, 6)), terms(term(7), term(5, 0, 1)), 6, of(terms(term(7, 6)), between(-5, 5))},
		{terms(term(one, 6)), terms(term(7), term(5, 0, 1)), 100, of(terms(term(7, 6)), between(-5, 5))},
		{terms(term(one, 4)), terms(term(one, 3)), 7, of(nil, between(-one, one))},
		{terms(term(one, 6)), terms(term(one, 6)), 12, of(nil, between(0, one))},
		{terms(term(one, 4)), terms(term(-one, 0, 4)), 8, of(nil, between(-one, 0))},
		{terms(term(one, 4, 1)), terms(term(-one, 0, 1, 2)), 8, of(nil, between(-one, 0))},
		// Products that are not exact.
		{terms(term(3, 1)), terms(term(one/2, 1)), 6, of(terms(term(1, 2)), between(0, 1))},
		{terms(term(3, 1)), terms(term(-one / 2)), 6, of(terms(term(-2, 1)), between(-1, 1))},
		{terms(term(3)), terms(term(one / 2)), 6, of(terms(term(1)), between(0, 1))},
		{terms(term(3, 1)), terms(term(one/2, 0, 1)), 6, of(terms(term(1, 1, 1)), between(-1, 1))},
		{terms(term(3, 6)), terms(term(one/2, 0, 6)), 6, of(nil, between(0, 2))},
		{terms(term(3, 6)), terms(term(one/2, 0, 5)), 6, of(nil, between(-2, 2))},
		{terms(term(1), term(1, 1)), terms(term(1), term(1, 1)), 6, of(nil, between(-2, 4))},
		{terms(term(1), term(-1, 1)), terms(term(1), term(1, 1)), 6, of(terms(term(-1, 1), term(-1, 2)), between(-2, 4))},
		// Both products of this coefficient are rounded, though the sum is exact.
		{terms(term(3), term(3, 1)), terms(term(one/2), term(one/2, 1)), 6, of(terms(term(1), term(2, 1), term(1, 2)), between(-2, 4))},
		// Two rounded products cancel, or are dropped, and are not exact still.
		{terms(term(1), term(-1, 1)), terms(term(one+1), term(one+1, 1)), 6, of(terms(term(1), term(-1, 1), term(-2, 2)), between(-2, 4))},
		{terms(term(1), term(-1, 1)), terms(term(one+1), term(one+1, 1)), 1, of(terms(term(1), term(-1, 1)), between(-4, 4))},
		// Coefficients that are just numbers, and just not.
		{terms(term(1 << 30)), terms(term(2 * one)), 6, failure()},
		{terms(term(1 << 30)), terms(term(-2 * one)), 6, failure()},
		{terms(term(2147450880, 1)), terms(term(one+1, 1)), 6, of(terms(term(largest, 2)), between(0, 1))},
		{terms(term(2147450881, 1)), terms(term(one+1, 1)), 6, failure()},
		{terms(term(-2147450879, 1)), terms(term(one+1, 1)), 6, of(terms(term(-largest, 2)), between(0, 1))},
		{terms(term(-2147450880, 1)), terms(term(one+1, 1)), 6, failure()},
		{terms(term(1), term(largest-1, 1)), terms(term(one), term(one, 1)), 6, exact(term(1), term(largest, 1), term(largest-1, 2))},
		{terms(term(1), term(largest, 1)), terms(term(one), term(one, 1)), 6, failure()},
		{terms(term(-1), term(1-largest, 1)), terms(term(one), term(one, 1)), 6, exact(term(-1), term(-largest, 1), term(1-largest, 2))},
		{terms(term(-1), term(-largest, 1)), terms(term(one), term(one, 1)), 6, failure()},
		// The same in terms that are dropped.
		{terms(term(2147450879, 4)), terms(term(one+1, 4)), 6, of(nil, between(0, largest))},
		{terms(term(2147450880, 4)), terms(term(one+1, 4)), 6, failure()},
		{terms(term(-2147450879, 4)), terms(term(one+1, 4)), 6, of(nil, between(-largest, 1))},
		{terms(term(-2147450880, 4)), terms(term(one+1, 4)), 6, failure()},
		{terms(term(1<<30, 4)), terms(term(2*one, 4)), 6, failure()},
		{terms(term(1<<30, 4)), terms(term(one, 3), term(one, 4)), 6, failure()},
		{terms(term(1<<30, 1)), terms(term(2*one, 1)), 1, failure()},
		{terms(term(1<<30, 1)), terms(term(2*one, 1)), -1, failure()},
		// The ends of the ranges of these terms would have numbers as sums.
		{terms(term(5), term(-1<<30, 2)), terms(term(2 * one)), -1, failure()},
		{terms(term(-5), term(1<<30, 2)), terms(term(2 * one)), -1, failure()},
		{terms(term(5), term(1-1<<30, 2)), terms(term(2 * one)), -1, of(nil, between(12-1<<31, 10))},
		// The ends of the remainder are just numbers, and just not.
		{terms(term(largest-1, 6)), terms(term(1), term(one, 1)), 6, of(terms(term(32767, 6)), between(1-largest, largest))},
		{terms(term(largest, 6)), terms(term(1), term(one, 1)), 6, failure()},
		{terms(term(-2147450878, 6)), terms(term(one, 0, 2), term(1, 1)), 6, of(nil, between(-largest, 32769))},
		{terms(term(-2147450879, 6)), terms(term(one, 0, 2), term(1, 1)), 6, failure()},
		{terms(term(1<<30-1, 6)), terms(term(one, 0, 1), term(one, 1)), 6, of(nil, between(2-1<<31, 1<<31-2))},
		{terms(term(1<<30, 6)), terms(term(one, 0, 1), term(one, 1)), 6, failure()},
		{terms(term(1<<30, 6)), terms(term(one, 0, 2), term(one, 2)), 6, failure()},
		{terms(term(1<<30, 6)), terms(term(-one, 0, 2), term(one, 2)), 6, of(nil, between(-1<<30, 1<<30))},
		{terms(term(1<<30, 6)), terms(term(-one, 0, 2), term(-one, 2)), 6, failure()},
	} {
		check(t, "a product", of(Mul(x.a, x.b, x.deg)), x.want)
		check(t, "a product", of(Mul(x.b, x.a, x.deg)), x.want)
	}
}

// TestMulCancels is about coefficients that are numbers, though the products that
// are collected in them, and some of their partial sums, are not.
func TestMulCancels(t *testing.T) {
	binomials := []int64{1, 6, 15, 20, 15, 6, 1}
	var a, b, want []api.Term
	sign := int64(1)
	for i, c := range binomials {
		a = append(a, term(16*one*c, uint8(i)))
		b = append(b, term(sign*16*one*c, uint8(i)))
		if i < 4 {
			want = append(want, term(sign*256*one*c, uint8(2*i)))
		}
		sign = -sign
	}
	// a is 16 (1 + x)^6 and b is 16 (1 - x)^6, so the product is 256 (1 - x^2)^6.
	check(t, "256 (1 - x^2)^6", of(Mul(a, b, 6)), of(want, between(-256*one*6, 256*one*(15+1))))
	check(t, "256 (1 - x^2)^6", of(Mul(a, b, 4)), of(want[:3], between(-256*one*(20+6), 256*one*(15+1))))
}

// TestMulCountsTerms is about products that have just 100 terms, and just not.
func TestMulCountsTerms(t *testing.T) {
	m := monomials()
	hundred := all(one, m[:100])
	check(t, "100 terms times 1", of(Mul(hundred, Const(one), 6)), exact(hundred...))
	var a, b, grid []api.Term
	for i := range uint8(4) {
		for j := range 4 - i {
			a, b = append(a, term(one, i, j)), append(b, term(one, 0, 0, 0, 0, i, j))
		}
	}
	for _, s := range a {
		for _, u := range b {
			grid = append(grid, term(one, s.E[0], s.E[1], 0, 0, u.E[4], u.E[5]))
		}
	}
	check(t, "10 terms times 10 terms", of(Mul(a, b, 6)), exact(grid...))
	check(t, "10 terms times 11 terms", of(Mul(a, append(slices.Clone(b), term(one, 1)), 6)), failure())

	// Of the products with x^6, all but that of the constant are dropped. 79 of
	// the terms have an odd exponent.
	top := term(one, 6)
	check(t, "99 terms times 1 + x^6", of(Mul(hundred[:99], terms(term(one), top), 6)), of(append(all(one, m[:99]), top), between(-79*one, 98*one)))
	check(t, "100 terms times 1 + x^6", of(Mul(hundred, terms(term(one), top), 6)), failure())
	full := append(all(one, m[:99]), top)
	check(t, "100 terms times 1 + x^6", of(Mul(full, terms(term(one), top), 6)), of(append(all(one, m[:99]), term(2*one, 6)), between(-79*one, 99*one)))
	check(t, "100 terms times 1 - x^6", of(Mul(full, terms(term(one), term(-one, 6)), 6)), of(all(one, m[:99]), between(-99*one, 79*one)))
}

func TestRange(t *testing.T) {
	for _, x := range []struct {
		p    []api.Term
		want api.Interval
	}{
		{nil, api.Interval{}},
		{terms(), api.Interval{}},
		{terms(term(5)), point(5)},
		{terms(term(-5)), point(-5)},
		{terms(term(5, 1)), between(-5, 5)},
		{terms(term(-5, 1)), between(-5, 5)},
		{terms(term(5, 2)), between(0, 5)},
		{terms(term(-5, 2)), between(-5, 0)},
		{terms(term(5, 2, 4)), between(0, 5)},
		{terms(term(-5, 2, 4)), between(-5, 0)},
		{terms(term(5, 2, 3)), between(-5, 5)},
		{terms(term(-5, 3, 2)), between(-5, 5)},
		{terms(term(5, 1, 1)), between(-5, 5)},
		{terms(term(5, 0, 0, 0, 0, 0, 1)), between(-5, 5)},
		{terms(term(5, 0, 0, 0, 0, 0, 6)), between(0, 5)},
		{terms(term(one), term(one, 1), term(-one, 2)), between(-one, 2*one)},
		{terms(term(-2), term(3, 0, 2), term(-4, 0, 4), term(5, 1, 2)), between(-11, 6)},
		{terms(term(largest)), point(largest)},
		{terms(term(-largest)), point(-largest)},
		{terms(term(-largest, 3)), between(-largest, largest)},
		{terms(term(largest-1), term(1, 2)), between(largest-1, largest)},
		{terms(term(largest), term(1, 2)), entire},
		{terms(term(largest), term(-1, 2)), between(largest-1, largest)},
		{terms(term(-largest), term(1, 2)), between(-largest, 1-largest)},
		{terms(term(-largest), term(-1, 2)), entire},
		{terms(term(1-largest), term(-1, 2)), between(-largest, 1-largest)},
		{terms(term(largest), term(1, 1)), entire},
		{terms(term(-largest), term(1, 1)), entire},
		{terms(term(largest-5, 0, 1), term(5, 1)), between(-largest, largest)},
		{terms(term(largest-5, 0, 1), term(6, 1)), entire},
		{terms(term(largest, 2), term(-largest, 4)), between(-largest, largest)},
		{all(one, monomials()[:100]), between(-79*one, 100*one)},
		{all(largest, monomials()[:100]), entire},
	} {
		if got := Range(x.p); got != x.want {
			t.Errorf("Range(%v) = %v, want %v", x.p, got, x.want)
		}
	}
}

func TestEval(t *testing.T) {
	x, y, z := term(one, 1), term(one, 0, 1), term(one, 0, 0, 1)
	unit := between(-one, one)
	for _, c := range []struct {
		p    []api.Term
		b    []api.Interval
		want api.Interval
	}{
		{nil, nil, api.Interval{}},
		{nil, box(entire), api.Interval{}},
		{terms(term(5)), box(entire, entire), point(5)},
		{terms(term(-5)), nil, point(-5)},
		// Variables without a coordinate range over [-1, 1].
		{terms(x), nil, unit},
		{terms(x), box(), unit},
		{terms(x), box(between(3, 4)), between(3, 4)},
		{terms(y), box(between(3, 4)), unit},
		{terms(y), box(entire), unit},
		{terms(term(7), y), box(entire), between(7-one, 7+one)},
		{terms(term(7), x), box(entire), entire},
		{terms(z, y, x), box(between(one, 2*one), between(-3, 5)), between(-3, 3*one+5)},
		{terms(term(one, 0, 0, 0, 0, 0, 1)), box(entire, entire, entire, entire, entire), unit},
		{terms(term(one, 0, 0, 0, 0, 0, 1)), box(entire, entire, entire, entire, entire, point(9)), point(9)},
		{terms(term(one, 0, 0, 0, 0, 0, 2)), nil, between(0, one)},
		{terms(term(one, 1), term(one/2, 1, 1)), nil, between(-3*one/2, 3*one/2)},
		// Powers.
		{terms(term(one, 2)), box(between(-one, 2*one)), between(0, 4*one)},
		{terms(term(one, 3)), box(between(-one, 2*one)), between(-4*one, 8*one)},
		{terms(term(one, 4)), box(between(-one, 2*one)), between(0, 16*one)},
		{terms(term(one, 5)), box(between(-one, 2*one)), between(-16*one, 32*one)},
		{terms(term(one, 6)), box(between(-one, 2*one)), between(0, 64*one)},
		{terms(term(one, 3)), box(between(-2*one, one)), between(-8*one, 4*one)},
		{terms(term(one, 6)), box(between(-2*one, one)), between(0, 64*one)},
		{terms(term(one, 5)), box(point(2 * one)), point(32 * one)},
		{terms(term(one, 5)), box(point(-2 * one)), point(-32 * one)},
		{terms(term(one, 6)), box(point(-2 * one)), point(64 * one)},
		{terms(term(one, 1, 1, 1, 1, 1, 1)), box(point(one), point(2*one), point(one/2), point(-one), point(3*one), point(5*one)), point(-15 * one)},
		// Each power is computed in its own way: x^3 x, x^3 x^2 and x^4 x^2 would be
		// [1, 3], [0, 1] and [0, 2].
		{terms(term(one, 2)), box(point(257)), between(1, 2)},
		{terms(term(one, 2)), box(point(4855)), between(359, 360)},
		{terms(term(one, 3)), box(point(4855)), between(26, 27)},
		{terms(term(one, 4)), box(point(4855)), between(1, 2)},
		{terms(term(one, 5)), box(point(7095)), between(0, 2)},
		{terms(term(one, 6)), box(point(10301)), between(0, 1)},
		// The coefficient is multiplied by the powers one by one.
		{terms(term(1, 1, 1)), box(point(one/2), point(2*one)), between(0, 2)},
		{terms(term(1, 1, 1)), box(point(2*one), point(one/2)), point(1)},
		{terms(term(one*4, 1, 1)), box(point(1), point(1)), between(0, 1)},
		{terms(term(one, 1, 1)), box(point(1), point(1)), between(0, 1)},
		{terms(term(1<<30, 1, 1)), box(point(2*one), point(one/2)), entire},
		{terms(term(1<<30, 1, 1)), box(point(one/2), point(2*one)), point(1 << 30)},
		{terms(term(1, 6)), box(point(8 * one)), entire},
		{terms(term(1, 0, 1, 1)), box(entire, point(0), entire), entire},
		{terms(term(one, 1, 1)), box(point(0), between(-3, 5)), point(0)},
		// The terms are added one by one, in order.
		{terms(term(largest), y, term(-one, 1)), box(point(one), point(one)), entire},
		{terms(term(largest), term(-one, 0, 1), x), box(point(one), point(one)), point(largest)},
		{terms(term(-largest), term(-one, 0, 1), x), box(point(one), point(one)), entire},
		{terms(term(largest), x), box(point(0)), point(largest)},
		{terms(term(largest), x), box(point(1)), entire},
		{terms(term(largest-1), x), box(point(1)), point(largest)},
		{terms(term(1-largest), x), box(point(-1)), point(-largest)},
		{terms(term(-largest), x), box(point(-1)), entire},
		// Coordinates beyond the sixth belong to no variable.
		{terms(term(one, 0, 0, 0, 0, 0, 1)), box(entire, entire, entire, entire, entire, point(9), entire), point(9)},
	} {
		if got := Eval(c.p, c.b); got != c.want {
			t.Errorf("Eval(%v, %v) = %v, want %v", c.p, c.b, got, c.want)
		}
	}
}

// calls calls every function, and returns the results.
func calls(a, b []api.Term, l []api.Interval, c int64, n int) (results []result, ranges []api.Interval, others []int) {
	valid := 0
	if Valid(a) {
		valid = 1
	}
	return []result{
		of(Const(c), api.Interval{}), of(Var(n), api.Interval{}), of(Add(a, b)), of(Scale(a, c)), of(Truncate(a, n)), of(Mul(a, b, n)),
	}, []api.Interval{Range(a), Eval(a, l)}, []int{valid, Degree(a)}
}

// TestNothingPanics calls all functions with all kinds of arguments, those for
// which nothing else is specified among them.
func TestNothingPanics(t *testing.T) {
	l := append(invalid(), valid()...)
	numbers := []int64{0, -1, one, largest, api.Max, math.MaxInt64, math.MinInt64}
	boxes := [][]api.Interval{nil, box(between(-3, 5)), box(between(1, 0), entire, between(math.MinInt64, math.MaxInt64)), slices.Repeat(box(entire), 9)}
	for i, a := range l {
		for j, b := range l {
			k := i + j
			if len(a)*len(b) <= 10000 {
				calls(a, b, boxes[k%len(boxes)], numbers[k%len(numbers)], []int{0, 6, -1, math.MaxInt, math.MinInt}[k%5])
			}
		}
	}
}

// TestResultsDependOnArgumentsOnly calls the functions again after other calls: P2 of the document.
func TestResultsDependOnArgumentsOnly(t *testing.T) {
	a, b, l := all(77*one+5, monomials()[40:60]), all(-3, monomials()[48:60]), box(between(-5, one), point(7*one))
	results, ranges, others := calls(a, b, l, 5*one-1, 4)
	calls(b, a, nil, one, -1)
	calls(terms(term(largest)), terms(term(largest)), box(entire), largest, 0)
	results2, ranges2, others2 := calls(a, b, l, 5*one-1, 4)
	if !slices.EqualFunc(results, results2, result.equals) || !slices.Equal(ranges, ranges2) || !slices.Equal(others, others2) {
		t.Errorf("first %v, %v, %v, then %v, %v, %v", results, ranges, others, results2, ranges2, others2)
	}
}

// TestResultsAreNewMemory overwrites the results, with all the room behind them:
// the arguments must be as before.
func TestResultsAreNewMemory(t *testing.T) {
	m := monomials()
	for _, x := range []struct{ a, b []api.Term }{
		{all(7, m[:9]), all(5, m[4:20])}, {all(7, m[:9]), nil}, {nil, all(7, m[:9])}, {all(one, m[:9]), Const(one)}, {Const(one), all(one, m[:9])},
		{all(one, m[:9]), all(one, m[9:20])}, {all(one, m[9:20]), all(one, m[:9])}, {all(7, m[:9]), all(-7, m[:9])},
	} {
		// With room behind them, the arguments would be changed by appending to them.
		a, b := slices.Grow(slices.Clone(x.a), 50), slices.Grow(slices.Clone(x.b), 50)
		l := box(point(3), between(4, 5))
		results, _, _ := calls(a, b, l, one, 6)
		for _, r := range results {
			r.p = r.p[:cap(r.p)]
			for i := range r.p {
				r.p[i] = term(99, 9, 9)
			}
		}
		if !slices.Equal(a, x.a) || !slices.Equal(b, x.b) || !slices.Equal(l, box(point(3), between(4, 5))) {
			t.Errorf("%v and %v have changed to %v and %v", x.a, x.b, a, b)
		}
		for _, s := range append(a[len(a):cap(a)], b[len(b):cap(b)]...) {
			if s != (api.Term{}) {
				t.Errorf("the room behind %v and %v has changed", x.a, x.b)
			}
		}
	}
}

// TestImports checks that the package imports no other layers than fixed and interval.
func TestImports(t *testing.T) {
	files, err := filepath.Glob("*.go")
	if err != nil || len(files) == 0 {
		t.Fatal("no files", err)
	}
	allowed := []string{`"armillary/api"`, `"armillary/fixed"`, `"armillary/interval"`}
	for _, name := range files {
		if strings.HasSuffix(name, "_test.go") {
			continue
		}
		file, err := parser.ParseFile(token.NewFileSet(), name, nil, parser.ImportsOnly)
		if err != nil {
			t.Fatal(err)
		}
		for _, spec := range file.Imports {
			if path := spec.Path.Value; strings.HasPrefix(path, `"armillary`) && !slices.Contains(allowed, path) {
				t.Errorf("%s imports %s", name, path)
			}
		}
	}
}
