package fixed

import (
	"go/parser"
	"go/token"
	"math"
	"path/filepath"
	"strings"
	"testing"

	"armillary/api"
)

// Tests of P1.1: the functions behave as A1 to A6 say.

const largest = api.Max - 1

func TestValidAcceptsExactlyTheNumbers(t *testing.T) {
	for _, x := range []int64{0, 1, -1, api.One, -api.One, largest, -largest} {
		if !Valid(x) {
			t.Errorf("Valid(%d) = false", x)
		}
	}
	for _, x := range []int64{api.Max, -api.Max, api.Max + 1, -api.Max - 1, 1 << 32, -1 << 32, math.MaxInt64, math.MinInt64} {
		if Valid(x) {
			t.Errorf("Valid(%d) = true", x)
		}
	}
}

func TestMul(t *testing.T) {
	for _, x := range []struct{ a, b, lo, hi int64 }{
		{0, 0, 0, 0},
		{0, -largest, 0, 0},
		{1, 1, 0, 1},
		{-1, 1, -1, 0},
		{-1, -1, 0, 1},
		{api.One, -7, -7, -7},
		{3, api.One / 2, 1, 2},
		{-3, api.One / 2, -2, -1},
		{4, api.One / 2, 2, 2},
		{-98304, 131072, -196608, -196608},
		{256, 256, 1, 1},
		{257, 256, 1, 2},
		{255, 256, 0, 1},
		{largest, largest, 70368744112128, 70368744112129},
		{largest, -largest, -70368744112129, -70368744112128},
		{-largest, -largest, 70368744112128, 70368744112129},
		{largest, api.One, largest, largest},
		{-largest, api.One, -largest, -largest},
	} {
		if lo, hi := Mul(x.a, x.b); lo != x.lo || hi != x.hi {
			t.Errorf("Mul(%d, %d) = %d, %d, want %d, %d", x.a, x.b, lo, hi, x.lo, x.hi)
		}
	}
}

func TestDiv(t *testing.T) {
	for _, x := range []struct {
		a, b, lo, hi int64
		err          api.Errno
	}{
		{65536, 196608, 21845, 21846, api.OK},
		{-65536, 196608, -21846, -21845, api.OK},
		{65536, -196608, -21846, -21845, api.OK},
		{-65536, -196608, 21845, 21846, api.OK},
		{0, -3, 0, 0, api.OK},
		{6, 3, 131072, 131072, api.OK},
		{1, largest, 0, 1, api.OK},
		{-1, largest, -1, 0, api.OK},
		{1, -largest, -1, 0, api.OK},
		{largest, largest, api.One, api.One, api.OK},
		{largest, -largest, -api.One, -api.One, api.OK},
		{largest, 1, 140737488289792, 140737488289792, api.OK},
		{-largest, 1, -140737488289792, -140737488289792, api.OK},
		{largest, -1, -140737488289792, -140737488289792, api.OK},
		{0, 0, 0, 0, api.ErrZero},
		{1, 0, 0, 0, api.ErrZero},
		{-largest, 0, 0, 0, api.ErrZero},
	} {
		if lo, hi, err := Div(x.a, x.b); lo != x.lo || hi != x.hi || err != x.err {
			t.Errorf("Div(%d, %d) = %d, %d, %d, want %d, %d, %d", x.a, x.b, lo, hi, err, x.lo, x.hi, x.err)
		}
	}
}

func TestSqrt(t *testing.T) {
	for _, x := range []struct {
		a, lo, hi int64
		err       api.Errno
	}{
		{0, 0, 0, api.OK},
		{1, 256, 256, api.OK},
		{2, 362, 363, api.OK},
		{3, 443, 444, api.OK},
		{4, 512, 512, api.OK},
		{65535, 65535, 65536, api.OK},
		{65536, 65536, 65536, api.OK},
		{65537, 65536, 65537, api.OK},
		{131072, 92681, 92682, api.OK},
		{262144, 131072, 131072, api.OK},
		{2147395600, 11863040, 11863040, api.OK},
		{largest - 1, 11863283, 11863284, api.OK},
		{largest, 11863283, 11863284, api.OK},
		{-1, 0, 0, api.ErrDomain},
		{-api.One, 0, 0, api.ErrDomain},
		{-largest, 0, 0, api.ErrDomain},
	} {
		if lo, hi, err := Sqrt(x.a); lo != x.lo || hi != x.hi || err != x.err {
			t.Errorf("Sqrt(%d) = %d, %d, %d, want %d, %d, %d", x.a, lo, hi, err, x.lo, x.hi, x.err)
		}
	}
}

func TestMulRatio(t *testing.T) {
	const bound = 1 << 30
	for _, x := range []struct {
		a, n, d, lo, hi int64
		err             api.Errno
	}{
		{7, 1, 2, 3, 4, api.OK},
		{7, -1, 2, -4, -3, api.OK},
		{-7, 1, 2, -4, -3, api.OK},
		{-7, -1, 2, 3, 4, api.OK},
		{7, 2, 2, 7, 7, api.OK},
		{7, 0, 5, 0, 0, api.OK},
		{0, bound, 3, 0, 0, api.OK},
		{1, 1, bound, 0, 1, api.OK},
		{-1, 1, bound, -1, 0, api.OK},
		{1, bound, 1, bound, bound, api.OK},
		{1, -bound, 1, -bound, -bound, api.OK},
		{largest, bound, 1, largest * bound, largest * bound, api.OK},
		{-largest, bound, 1, -largest * bound, -largest * bound, api.OK},
		{largest, -bound, bound, -largest, -largest, api.OK},
		{largest, bound - 1, bound, 2147483645, 2147483646, api.OK},
		{7, bound + 1, 1, 0, 0, api.ErrArg},
		{7, -bound - 1, 1, 0, 0, api.ErrArg},
		{7, 1, bound + 1, 0, 0, api.ErrArg},
		{7, 1, 0, 0, 0, api.ErrArg},
		{7, 1, -1, 0, 0, api.ErrArg},
		{7, 1, -bound, 0, 0, api.ErrArg},
		{0, 0, 0, 0, 0, api.ErrArg},
		{7, math.MaxInt64, 1, 0, 0, api.ErrArg},
		{7, math.MinInt64, 1, 0, 0, api.ErrArg},
		{7, 1, math.MaxInt64, 0, 0, api.ErrArg},
		{7, 1, math.MinInt64, 0, 0, api.ErrArg},
		{7, math.MinInt64, math.MinInt64, 0, 0, api.ErrArg},
	} {
		if lo, hi, err := MulRatio(x.a, x.n, x.d); lo != x.lo || hi != x.hi || err != x.err {
			t.Errorf("MulRatio(%d, %d, %d) = %d, %d, %d, want %d, %d, %d", x.a, x.n, x.d, lo, hi, err, x.lo, x.hi, x.err)
		}
	}
}

func TestFormat(t *testing.T) {
	for _, x := range []struct {
		n    int64
		text string
	}{
		{0, "0"},
		{api.One, "1"},
		{-api.One, "-1"},
		{-98304, "-1.5"},
		{1, "0.0000152587890625"},
		{-1, "-0.0000152587890625"},
		{api.One - 1, "0.9999847412109375"},
		{api.One + 1, "1.0000152587890625"},
		{6553, "0.0999908447265625"},
		{1 << 15, "0.5"},
		{1 << 14, "0.25"},
		{10 * api.One, "10"},
		{-20*api.One - 1<<13, "-20.125"},
		{100*api.One + 1<<12, "100.0625"},
		{32767 * api.One, "32767"},
		{largest, "32767.9999847412109375"},
		{-largest, "-32767.9999847412109375"},
	} {
		if text := Format(x.n); text != x.text {
			t.Errorf("Format(%d) = %q, want %q", x.n, text, x.text)
		}
	}
}

func TestParseOfNumbers(t *testing.T) {
	for _, x := range []struct {
		s      string
		lo, hi int64
	}{
		{"0", 0, 0},
		{"-0", 0, 0},
		{"-0.000", 0, 0},
		{"1", api.One, api.One},
		{"-1", -api.One, -api.One},
		{"0.1", 6553, 6554},
		{"-0.1", -6554, -6553},
		{"1.5", 98304, 98304},
		{"00.50", 32768, 32768},
		{"-007.250", -475136, -475136},
		{strings.Repeat("0", 100) + "1", api.One, api.One},
		{"1." + strings.Repeat("0", 100), api.One, api.One},
		{"0.0000152587890625", 1, 1},
		{"0.00001525878906250", 1, 1},
		{"0.00001525878906250000000000000001", 1, 2},
		{"0.0000152587890624", 0, 1},
		{"0.00001525878906249999999999999999", 0, 1},
		{"0.0000152587890626", 1, 2},
		{"0.99999999999999999999", 65535, 65536},
		{"-0.99999999999999999999", -65536, -65535},
		{"0." + strings.Repeat("0", 200) + "1", 0, 1},
		{"-0." + strings.Repeat("0", 200) + "1", -1, 0},
		{"9.75", 638976, 638976},
		{"32767", 32767 * api.One, 32767 * api.One},
		{"32767.9999847412109375", largest, largest},
		{"-32767.9999847412109375", -largest, -largest},
		{"32767.99998474121093750000000000", largest, largest},
		{"32767.9999847412109374", largest - 1, largest},
		{"-32767.9999847412109374", -largest, -largest + 1},
		{"32767.9999847412109374999999999999", largest - 1, largest},
	} {
		if lo, hi, offset, err := Parse(x.s); lo != x.lo || hi != x.hi || offset != 0 || err != api.OK {
			t.Errorf("Parse(%q) = %d, %d, %d, %d, want %d, %d, 0, 0", x.s, lo, hi, offset, err, x.lo, x.hi)
		}
	}
}

func TestParseOfTooLargeNumbers(t *testing.T) {
	for _, s := range []string{
		"32767.9999847412109376",
		"-32767.9999847412109376",
		"32767.99998474121093750000000000000001",
		"-32767.99998474121093750000000000000001",
		"32767.99999",
		"32768",
		"-32768",
		"32768.0",
		"40000",
		"65536",
		"281474976710656",
		"18446744073709551616",
		"18446744073709551617.5",
		"-99999999999999999999999",
		"1" + strings.Repeat("0", 1000),
		strings.Repeat("9", 1000) + "." + strings.Repeat("9", 1000),
	} {
		if lo, hi, offset, err := Parse(s); lo != 0 || hi != 0 || offset != 0 || err != api.ErrBig {
			t.Errorf("Parse(%q) = %d, %d, %d, %d, want 0, 0, 0, ErrBig", s, lo, hi, offset, err)
		}
	}
}

func TestParseOfOtherTexts(t *testing.T) {
	for _, x := range []struct {
		s      string
		offset int
	}{
		{"", 0}, {"-", 1}, {"1.", 2}, {"-1.", 3}, {"-12.", 4},
		{".", 0}, {".5", 0}, {"-.5", 1}, {"--1", 1}, {"+1", 0}, {"-+1", 1},
		{"1.2.3", 3}, {"1..2", 2}, {"1.-2", 2}, {"1-2", 1}, {"1.2-", 3},
		{"1e5", 1}, {"1.5e5", 3}, {"1,5", 1}, {"0x10", 1}, {"1_000", 1},
		{" 1", 0}, {"1 ", 1}, {"- 1", 1}, {"1. 5", 2}, {"1.5\n", 3}, {"1\x00", 1},
		{"/", 0}, {":", 0}, {"1/", 1}, {"1:", 1}, {"1./", 2}, {"1.2:", 3},
		{"\u0663", 0}, {"1\u0663", 1}, {"1.\u0663", 2}, {"\xff", 0}, {"-\xff", 1}, {"NaN", 0}, {"-Inf", 1},
		{"99999999999999999999x", 20}, {"99999.", 6}, {"32768.0.", 7},
	} {
		if lo, hi, offset, err := Parse(x.s); lo != 0 || hi != 0 || offset != x.offset || err != api.ErrDigit {
			t.Errorf("Parse(%q) = %d, %d, %d, %d, want 0, 0, %d, ErrDigit", x.s, lo, hi, offset, err, x.offset)
		}
	}
}

// TestParseOfCutTexts cuts a number behind each byte: what is left is a number
// or ends too early.
func TestParseOfCutTexts(t *testing.T) {
	const text = "-32767.9999847412109375"
	for n := range len(text) {
		_, _, offset, err := Parse(text[:n])
		if early := n <= 1 || text[n-1] == '.'; early && (offset != n || err != api.ErrDigit) || !early && (offset != 0 || err != api.OK) {
			t.Errorf("Parse(%q) gives offset %d and error %d", text[:n], offset, err)
		}
	}
}

// TestNothingPanics calls all functions with all kinds of arguments: P1 of the
// document, and the same for the values that are no numbers.
func TestNothingPanics(t *testing.T) {
	values := []int64{0, 1, -1, 2, -3, api.One, -api.One, largest, -largest, api.Max, -api.Max, 1 << 32, 1 << 46, 1 << 47, 1 << 48, -1 << 48, 3 << 60, math.MaxInt64, math.MinInt64, math.MinInt64 + 1}
	for _, a := range values {
		Valid(a)
		Sqrt(a)
		Parse(Format(a))
		for _, b := range values {
			Mul(a, b)
			Div(a, b)
			for _, d := range values {
				MulRatio(a, b, d)
			}
		}
	}
}

// TestResultsDependOnArgumentsOnly calls the functions again after other calls: P2 of the document.
func TestResultsDependOnArgumentsOnly(t *testing.T) {
	type results struct {
		numbers [10]int64
		text    string
		offset  int
		errs    [4]api.Errno
	}
	call := func(a, b, n, d int64, s string) (r results) {
		v := &r.numbers
		v[0], v[1] = Mul(a, b)
		v[2], v[3], r.errs[0] = Div(a, b)
		v[4], v[5], r.errs[1] = Sqrt(a)
		v[6], v[7], r.errs[2] = MulRatio(a, n, d)
		v[8], v[9], r.offset, r.errs[3] = Parse(s)
		r.text = Format(a)
		return r
	}
	first := call(77777, -5, 3, 7, "12.345")
	call(-largest, 0, 1<<31, 0, "x")
	call(largest, largest, 1<<30, 1, "99999")
	if again := call(77777, -5, 3, 7, "12.345"); again != first {
		t.Errorf("first %v, then %v", first, again)
	}
}

// TestImports checks that the package imports no other package than api.
func TestImports(t *testing.T) {
	files, err := filepath.Glob("*.go")
	if err != nil || len(files) == 0 {
		t.Fatal("no files", err)
	}
	for _, name := range files {
		if strings.HasSuffix(name, "_test.go") {
			continue
		}
		file, err := parser.ParseFile(token.NewFileSet(), name, nil, parser.ImportsOnly)
		if err != nil {
			t.Fatal(err)
		}
		for _, spec := range file.Imports {
			if spec.Path.Value != `"armillary/api"` {
				t.Errorf("%s imports %s", name, spec.Path.Value)
			}
		}
	}
}
