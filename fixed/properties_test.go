package fixed

import (
	"math/big"
	"math/rand"
	"strings"
	"testing"

	"armillary/api"
)

// Tests of P1.2 to P1.5, on the edges of the range and on numbers of all sizes.

// numbers returns the edges of the range and pseudorandom numbers of all sizes.
func numbers() []int64 {
	l := []int64{0, 1, -1, 2, -2, 3, -3, 255, 256, 257, api.One - 1, api.One, api.One + 1, -api.One, largest - 1, largest, -largest + 1, -largest}
	source := rand.New(rand.NewSource(1))
	for range 60 {
		x := source.Int63n(1 << (1 + source.Intn(31)))
		l = append(l, x, -x)
	}
	return l
}

// ratio is the fraction of a call of MulRatio.
type ratio struct{ n, d int64 }

// ratios returns fractions up to the bounds of MulRatio.
func ratios() []ratio {
	const bound = 1 << 30
	l := []ratio{{0, 1}, {1, 1}, {-1, 1}, {1, 2}, {-2, 3}, {7, 5}, {bound, 1}, {-bound, 1}, {bound, bound}, {-bound, bound}, {1, bound}, {bound - 1, bound}, {bound, bound - 1}}
	source := rand.New(rand.NewSource(2))
	for range 30 {
		l = append(l, ratio{source.Int63n(2*bound+1) - bound, 1 + source.Int63n(bound)})
	}
	return l
}

// checkRounded checks that lo and hi are n / d rounded down and up: both are
// its value if that is an integer, and otherwise they enclose it and differ by 1.
func checkRounded(t *testing.T, call string, lo, hi int64, n, d *big.Int) {
	t.Helper()
	value := new(big.Rat).SetFrac(n, d)
	low, high := new(big.Rat).SetInt64(lo), new(big.Rat).SetInt64(hi)
	if value.IsInt() {
		if low.Cmp(value) != 0 || high.Cmp(value) != 0 {
			t.Errorf("%s gives %d, %d for the integer %s", call, lo, hi, value.RatString())
		}
		return
	}
	if low.Cmp(value) > 0 || high.Cmp(value) < 0 || hi != lo+1 {
		t.Errorf("%s gives %d, %d for %s", call, lo, hi, value.RatString())
	}
}

// product returns the exact product of integers.
func product(l ...int64) *big.Int {
	p := big.NewInt(1)
	for _, x := range l {
		p.Mul(p, big.NewInt(x))
	}
	return p
}

// P1.2: the results enclose the exact result, as closely as they can. So they
// are in order, as P3 of the document requires of the ends of an interval.

func TestRoundedProductsAndQuotients(t *testing.T) {
	for _, a := range numbers() {
		for _, b := range numbers() {
			lo, hi := Mul(a, b)
			checkRounded(t, "Mul", lo, hi, product(a, b), product(api.One))
			if b == 0 {
				continue
			}
			lo, hi, err := Div(a, b)
			checkRounded(t, "Div", lo, hi, product(a, api.One), product(b))
			if err != api.OK {
				t.Errorf("Div(%d, %d) fails with %d", a, b, err)
			}
		}
		for _, q := range ratios() {
			lo, hi, err := MulRatio(a, q.n, q.d)
			checkRounded(t, "MulRatio", lo, hi, product(a, q.n), product(q.d))
			if err != api.OK {
				t.Errorf("MulRatio(%d, %d, %d) fails with %d", a, q.n, q.d, err)
			}
		}
	}
}

func TestRoundedRoots(t *testing.T) {
	check := func(a int64) {
		lo, hi, err := Sqrt(a)
		root := new(big.Int).Sqrt(product(a, api.One))
		exact := product(a, api.One).Cmp(new(big.Int).Mul(root, root)) == 0
		if lo != root.Int64() || exact && hi != lo || !exact && hi != lo+1 || err != api.OK {
			t.Errorf("Sqrt(%d) = %d, %d, %d, want root %d, exact: %t", a, lo, hi, err, root, exact)
		}
	}
	for a := range int64(5000) {
		check(a)
		check(largest - a)
		square := (a + 1) * (a + 1)
		check(square)
		check(square - 1)
		check(square + 1)
	}
	for _, a := range numbers() {
		check(max(a, -a))
	}
}

func TestRoundedTexts(t *testing.T) {
	source := rand.New(rand.NewSource(3))
	for range 20000 {
		text := randomNumeral(source)
		value, _ := new(big.Rat).SetString(text)
		value.Mul(value, new(big.Rat).SetInt64(api.One))
		lo, hi, offset, err := Parse(text)
		if new(big.Rat).Abs(value).Cmp(new(big.Rat).SetInt64(largest)) > 0 {
			if lo != 0 || hi != 0 || offset != 0 || err != api.ErrBig {
				t.Errorf("Parse(%q) = %d, %d, %d, %d, want ErrBig", text, lo, hi, offset, err)
			}
			continue
		}
		checkRounded(t, "Parse "+text, lo, hi, value.Num(), value.Denom())
		if offset != 0 || err != api.OK {
			t.Errorf("Parse(%q) fails with %d at %d", text, err, offset)
		}
	}
}

// randomNumeral returns the text of a number, most often one that is in the
// range, and often one that is close to a multiple of a unit.
func randomNumeral(source *rand.Rand) string {
	digits := func(n int) string {
		text := make([]byte, n)
		for i := range text {
			text[i] = byte('0' + source.Intn(10))
		}
		return string(text)
	}
	text := ""
	switch source.Intn(3) {
	case 0:
		text = Format(source.Int63n(api.Max))
		if strings.Contains(text, ".") {
			text += digits(source.Intn(3))
		}
	case 1:
		text = digits(1+source.Intn(5)) + "." + digits(1+source.Intn(40))
	case 2:
		text = digits(1 + source.Intn(7))
	}
	if source.Intn(2) == 0 {
		text = "-" + text
	}
	return text
}

// P1.3: inverse operations reproduce the argument up to rounding.

func TestQuotientTimesDivisor(t *testing.T) {
	for _, a := range numbers() {
		for _, b := range numbers() {
			lo, hi, err := Div(a, b)
			if err != api.OK || !Valid(lo) || !Valid(hi) {
				continue
			}
			low1, high1 := Mul(lo, b)
			low2, high2 := Mul(hi, b)
			if min(low1, low2) > a || max(high1, high2) < a {
				t.Errorf("%d / %d is between %d and %d, but %d is not between their products with the divisor", a, b, lo, hi, a)
			}
			if lo == hi && (low1 != a || high1 != a) {
				t.Errorf("%d / %d is %d exactly, but their product is between %d and %d", a, b, lo, low1, high1)
			}
		}
	}
}

func TestSquaredRoot(t *testing.T) {
	for _, x := range numbers() {
		a := max(x, -x)
		lo, hi, err := Sqrt(a)
		if err != api.OK {
			t.Fatalf("Sqrt(%d) fails with %d", a, err)
		}
		low, _ := Mul(lo, lo)
		_, high := Mul(hi, hi)
		if low > a || high < a {
			t.Errorf("the squares of the roots %d and %d of %d do not enclose it", lo, hi, a)
		}
		if lo == hi && low != a {
			t.Errorf("the square of the exact root %d of %d is %d", lo, a, low)
		}
	}
}

func TestParseInvertsFormat(t *testing.T) {
	check := func(x int64) {
		text := Format(x)
		if lo, hi, offset, err := Parse(text); lo != x || hi != x || offset != 0 || err != api.OK {
			t.Errorf("Parse(Format(%d)) = Parse(%q) = %d, %d, %d, %d", x, text, lo, hi, offset, err)
		}
	}
	for x := range int64(2 * api.One) {
		check(x - api.One)
		check(largest - x)
		check(x - largest)
	}
	for _, x := range numbers() {
		check(x)
	}
}

// P1.4: monotonicity and symmetry.

// checkOrder checks that the rounded results of a smaller and a greater exact
// value, or equal ones, are in that order.
func checkOrder(t *testing.T, call string, lo1, hi1, lo2, hi2 int64) {
	t.Helper()
	if lo1 > lo2 || hi1 > hi2 {
		t.Errorf("%s: %d, %d is not below %d, %d", call, lo1, hi1, lo2, hi2)
	}
}

func TestMonotoneProductsAndQuotients(t *testing.T) {
	for _, x := range numbers() {
		for _, y := range numbers() {
			if x > y {
				continue
			}
			for _, b := range numbers() {
				lo1, hi1 := Mul(x, b)
				lo2, hi2 := Mul(y, b)
				if b < 0 {
					lo1, hi1, lo2, hi2 = lo2, hi2, lo1, hi1
				}
				checkOrder(t, "Mul", lo1, hi1, lo2, hi2)
				lo1, hi1, _ = Div(x, b)
				lo2, hi2, _ = Div(y, b)
				if b < 0 {
					lo1, hi1, lo2, hi2 = lo2, hi2, lo1, hi1
				}
				checkOrder(t, "Div", lo1, hi1, lo2, hi2)
			}
		}
	}
}

// TestMonotoneDivisor checks that a quotient falls when the divisor grows, for
// divisors of one sign and a positive dividend, and rises for a negative one.
func TestMonotoneDivisor(t *testing.T) {
	for _, x := range numbers() {
		for _, y := range numbers() {
			if x >= y || x == 0 || y == 0 || x < 0 != (y < 0) {
				continue
			}
			for _, a := range numbers() {
				lo1, hi1, _ := Div(a, y)
				lo2, hi2, _ := Div(a, x)
				if a < 0 {
					lo1, hi1, lo2, hi2 = lo2, hi2, lo1, hi1
				}
				checkOrder(t, "Div", lo1, hi1, lo2, hi2)
			}
		}
	}
}

func TestMonotoneRatiosAndRoots(t *testing.T) {
	for _, x := range numbers() {
		for _, y := range numbers() {
			if x > y {
				continue
			}
			for _, q := range ratios() {
				lo1, hi1, _ := MulRatio(x, q.n, q.d)
				lo2, hi2, _ := MulRatio(y, q.n, q.d)
				if q.n < 0 {
					lo1, hi1, lo2, hi2 = lo2, hi2, lo1, hi1
				}
				checkOrder(t, "MulRatio", lo1, hi1, lo2, hi2)
			}
			if x >= 0 {
				lo1, hi1, _ := Sqrt(x)
				lo2, hi2, _ := Sqrt(y)
				checkOrder(t, "Sqrt", lo1, hi1, lo2, hi2)
			}
		}
	}
}

// TestMonotoneFraction checks that MulRatio rises with n and falls with d, for
// a positive number, as far as the sign of n does not turn the latter round.
func TestMonotoneFraction(t *testing.T) {
	for _, x := range numbers() {
		a := max(x, -x)
		for _, q := range ratios() {
			lo1, hi1, err1 := MulRatio(a, q.n, q.d)
			if lo2, hi2, err := MulRatio(a, q.n+1, q.d); err == api.OK && err1 == api.OK {
				checkOrder(t, "MulRatio with a greater factor", lo1, hi1, lo2, hi2)
			}
			lo2, hi2, err2 := MulRatio(a, q.n, q.d+1)
			if err2 != api.OK {
				continue
			}
			if q.n < 0 {
				checkOrder(t, "MulRatio with a greater divisor", lo1, hi1, lo2, hi2)
			} else {
				checkOrder(t, "MulRatio with a greater divisor", lo2, hi2, lo1, hi1)
			}
		}
	}
}

func TestNegatedArguments(t *testing.T) {
	check := func(call string, lo, hi, negatedLo, negatedHi int64) {
		t.Helper()
		if negatedLo != -hi || negatedHi != -lo {
			t.Errorf("%s: %d, %d, but %d, %d with an argument negated", call, lo, hi, negatedLo, negatedHi)
		}
	}
	for _, a := range numbers() {
		for _, b := range numbers() {
			lo, hi := Mul(a, b)
			lo1, hi1 := Mul(-a, b)
			lo2, hi2 := Mul(a, -b)
			check("Mul", lo, hi, lo1, hi1)
			check("Mul", lo, hi, lo2, hi2)
			lo, hi, _ = Div(a, b)
			lo1, hi1, _ = Div(-a, b)
			lo2, hi2, _ = Div(a, -b)
			check("Div", lo, hi, lo1, hi1)
			check("Div", lo, hi, lo2, hi2)
		}
		for _, q := range ratios() {
			lo, hi, _ := MulRatio(a, q.n, q.d)
			lo1, hi1, _ := MulRatio(-a, q.n, q.d)
			lo2, hi2, _ := MulRatio(a, -q.n, q.d)
			check("MulRatio", lo, hi, lo1, hi1)
			check("MulRatio", lo, hi, lo2, hi2)
		}
	}
}

// P1.5: decimal notation.

func TestDecimalNotation(t *testing.T) {
	source := rand.New(rand.NewSource(4))
	for range 5000 {
		whole, fraction := source.Int63n(32766), randomFraction(source)
		text := Format(whole*api.One) + "." + fraction
		lo, hi, _, err := Parse(text)
		if err != api.OK {
			t.Fatalf("Parse(%q) fails with %d", text, err)
		}
		for zeros := range 30 {
			checkParse(t, text+strings.Repeat("0", zeros), lo, hi)
		}
		checkParse(t, strings.Repeat("0", 30)+text, lo, hi)
		checkParse(t, "-"+text, -hi, -lo)
		next := Format((whole+1)*api.One) + "." + fraction
		checkParse(t, next, lo+api.One, hi+api.One)
		checkParse(t, "-"+next, -hi-api.One, -lo-api.One)
	}
}

func TestFractionOfZeros(t *testing.T) {
	for _, x := range []int64{0, 1, 9, 10, 32767} {
		checkParse(t, Format(x*api.One)+"."+strings.Repeat("0", 50), x*api.One, x*api.One)
		checkParse(t, "-"+Format(x*api.One)+".0", -x*api.One, -x*api.One)
	}
}

func randomFraction(source *rand.Rand) string {
	text := make([]byte, 1+source.Intn(25))
	for i := range text {
		text[i] = byte('0' + source.Intn(10))
	}
	return string(text)
}

func checkParse(t *testing.T, text string, lo, hi int64) {
	t.Helper()
	if l, h, offset, err := Parse(text); l != lo || h != hi || offset != 0 || err != api.OK {
		t.Errorf("Parse(%q) = %d, %d, %d, %d, want %d, %d, 0, 0", text, l, h, offset, err, lo, hi)
	}
}
