package matrix

import (
	"go/parser"
	"go/token"
	"math"
	"path/filepath"
	"slices"
	"strings"
	"testing"

	"armillary/api"
)

// Tests of P4.1: the functions behave as D1 to D4 say.

const (
	one     = api.One
	largest = api.Max - 1
	steep   = 1 << 24
)

var (
	zero   = point(0)
	entire = between(-api.Max, api.Max)
	widest = between(-largest, largest)
)

func between(lo, hi int64) api.Interval { return api.Interval{Lo: lo, Hi: hi} }

func point(x int64) api.Interval { return between(x, x) }

// of returns a box or a row of an interval matrix.
func of(l ...api.Interval) []api.Interval { return l }

// at returns a row of a number matrix.
func at(l ...int64) []int64 { return l }

// rows returns the matrix with the given rows.
func rows[T any](l ...[]T) [][]T { return l }

// times returns the matrix with the given rows, multiplied by a number.
func times(by int64, l ...[]int64) [][]int64 {
	return each(l, func(x int64) int64 { return by * x })
}

// points returns the matrix of the points of a number matrix.
func points(m [][]int64) [][]api.Interval { return each(m, point) }

// each returns the matrix of the results of f for all elements.
func each[A, B any](m [][]A, f func(A) B) [][]B {
	var results [][]B
	for _, row := range m {
		l := make([]B, 0, len(row))
		for _, x := range row {
			l = append(l, f(x))
		}
		results = append(results, l)
	}
	return results
}

// full returns the n×n matrix with equal elements.
func full[T any](n int, x T) [][]T {
	var m [][]T
	for range n {
		m = append(m, slices.Repeat([]T{x}, n))
	}
	return m
}

// unity returns the n×n number matrix with x on its diagonal and 0 elsewhere.
func unity(n int, x int64) [][]int64 {
	m := full(n, int64(0))
	for i := range m {
		m[i][i] = x
	}
	return m
}

// except returns a matrix with another element in row i and column j.
func except[T any](m [][]T, i, j int, x T) [][]T {
	m = each(m, func(y T) T { return y })
	m[i][j] = x
	return m
}

func equal[T comparable](a, b [][]T) bool { return slices.EqualFunc(a, b, slices.Equal[[]T]) }

// misshapen returns matrices that have no rows, more than six rows or a row of a wrong length.
func misshapen[T any](x T) [][][]T {
	l := [][][]T{nil, {}, {nil}, {{}}, {{x, x}}, {{x}, {x}}, {{x, x}, nil}, {nil, {x, x}}, full(7, x), full(8, x), full(100, x), full(6, x)[:5], full(5, x)[:4], full(2, x)[:1], full(7, x)[:6], full(7, x)[:1]}
	for n := 1; n <= 6; n++ {
		m := full(n, x)
		l = append(l, append(full(n, x), nil), append(full(n, x), m[0]), append(full(n, x), slices.Repeat([]T{x}, n+1)))
		for i := range n {
			for _, length := range []int{0, n - 1, n + 1, 7} {
				m := full(n, x)
				m[i] = slices.Repeat([]T{x}, length)
				l = append(l, m)
			}
		}
	}
	// One row of one element is a matrix.
	return slices.DeleteFunc(l, func(m [][]T) bool { return len(m) == 1 && len(m[0]) == 1 })
}

// invalidIntervals returns intervals that are not valid.
func invalidIntervals() []api.Interval {
	return of(
		between(1, 0), between(largest, -largest), between(api.Max, -api.Max),
		between(0, api.Max), between(-api.Max, 0), between(-api.Max, largest), between(-largest, api.Max),
		point(api.Max), point(-api.Max), between(-api.Max-1, api.Max), between(-api.Max, api.Max+1),
		between(0, 1<<32), point(1<<32), between(math.MinInt64, math.MaxInt64), between(math.MaxInt64, math.MinInt64),
		point(math.MinInt64), point(math.MaxInt64),
	)
}

func TestValid(t *testing.T) {
	for n := 1; n <= 6; n++ {
		for _, a := range of(zero, between(-5, 9), point(largest), point(-largest), between(0, largest), widest, entire) {
			if m := full(n, a); !Valid(m) {
				t.Errorf("Valid(%v) = false", m)
			}
			for i := range n * n {
				if m := except(full(n, point(1)), i/n, i%n, a); !Valid(m) {
					t.Errorf("Valid(%v) = false", m)
				}
			}
		}
		for _, a := range invalidIntervals() {
			for i := range n * n {
				for _, m := range [][][]api.Interval{full(n, zero), full(n, entire), full(n, a)} {
					if m = except(m, i/n, i%n, a); Valid(m) {
						t.Errorf("Valid(%v) = true", m)
					}
				}
			}
		}
	}
	for _, a := range of(zero, between(1, 2), entire) {
		for _, m := range misshapen(a) {
			if Valid(m) {
				t.Errorf("Valid(%v) = true", m)
			}
		}
	}
}

func TestIdentity(t *testing.T) {
	if m, want := Identity(1), rows(of(point(one))); !equal(m, want) {
		t.Errorf("Identity(1) = %v", m)
	}
	if m, want := Identity(3), rows(of(point(one), zero, zero), of(zero, point(one), zero), of(zero, zero, point(one))); !equal(m, want) {
		t.Errorf("Identity(3) = %v", m)
	}
	for n := 1; n <= 6; n++ {
		if m := Identity(n); !equal(m, points(unity(n, one))) {
			t.Errorf("Identity(%d) = %v", n, m)
		}
	}
	for _, n := range []int{0, 7, 8, 100, 1 << 40, math.MaxInt, -1, -2, -6, -7, math.MinInt} {
		if m := Identity(n); len(m) != 0 {
			t.Errorf("Identity(%d) = %v", n, m)
		}
	}
}

func TestFromNumbers(t *testing.T) {
	for _, x := range []struct {
		m    [][]int64
		want [][]api.Interval
	}{
		{rows(at(0)), rows(of(zero))},
		{rows(at(largest, -largest), at(1, -1)), rows(of(point(largest), point(-largest)), of(point(1), point(-1)))},
		{rows(at(1, 2, 3), at(4, 5, 6), at(7, 8, 9)), rows(of(point(1), point(2), point(3)), of(point(4), point(5), point(6)), of(point(7), point(8), point(9)))},
		{full(6, int64(-9)), full(6, point(-9))},
	} {
		if m := FromNumbers(x.m); !equal(m, x.want) {
			t.Errorf("FromNumbers(%v) = %v, want %v", x.m, m, x.want)
		}
	}
}

func TestMid(t *testing.T) {
	for _, x := range []struct {
		m    [][]api.Interval
		want [][]int64
	}{
		{rows(of(between(-3, 0))), rows(at(-2))},
		{rows(of(between(0, 3))), rows(at(1))},
		{rows(of(entire)), rows(at(0))},
		{rows(of(widest, point(largest)), of(point(-largest), between(largest-1, largest))), rows(at(0, largest), at(-largest, largest-1))},
		{rows(of(between(1, 3), between(3, 5), between(5, 7)), of(entire, zero, point(-1)), of(between(-1, 0), between(-2, 0), between(-4, -1))), rows(at(2, 4, 6), at(0, 0, -1), at(-1, -1, -3))},
		{full(6, entire), full(6, int64(0))},
		{full(6, between(-largest, 1-largest)), full(6, int64(-largest))},
	} {
		if m := Mid(x.m); !equal(m, x.want) {
			t.Errorf("Mid(%v) = %v, want %v", x.m, m, x.want)
		}
	}
}

func TestTranspose(t *testing.T) {
	for _, x := range []struct{ m, want [][]api.Interval }{
		{rows(of(between(-3, 0))), rows(of(between(-3, 0)))},
		{rows(of(point(1), entire), of(between(3, 4), widest)), rows(of(point(1), between(3, 4)), of(entire, widest))},
		{points(rows(at(1, 2, 3), at(4, 5, 6), at(7, 8, 9))), points(rows(at(1, 4, 7), at(2, 5, 8), at(3, 6, 9)))},
		{full(6, entire), full(6, entire)},
	} {
		if m := Transpose(x.m); !equal(m, x.want) {
			t.Errorf("Transpose(%v) = %v, want %v", x.m, m, x.want)
		}
	}
	for i := range 36 {
		m := except(full(6, zero), i/6, i%6, entire)
		if got, want := Transpose(m), except(full(6, zero), i%6, i/6, entire); !equal(got, want) {
			t.Errorf("Transpose(%v) = %v", m, got)
		}
	}
}

func TestApply(t *testing.T) {
	for _, x := range []struct {
		m       [][]api.Interval
		b, want []api.Interval
	}{
		{points(times(one, at(1, 2), at(0, 1))), of(point(one), point(one)), of(point(3*one), point(one))},
		{points(times(one, at(1, 2), at(3, 4))), of(point(5*one), point(-6*one)), of(point(-7*one), point(-9*one))},
		{rows(of(between(-one, 2*one))), of(between(3*one, 4*one)), of(between(-4*one, 8*one))},
		{rows(of(between(-one, one), between(0, one)), of(point(one), zero)), of(between(0, 2*one), between(-one, 0)), of(between(-3*one, 2*one), between(0, 2*one))},
		// Every product of two units is rounded to 0 and 1.
		{full(6, point(1)), slices.Repeat(of(point(1)), 6), slices.Repeat(of(between(0, 6)), 6)},
		{full(6, point(-1)), slices.Repeat(of(point(1)), 6), slices.Repeat(of(between(-6, 0)), 6)},
		{full(6, point(one)), points(rows(at(1, 2, 3, 4, 5, 6)))[0], slices.Repeat(of(point(21)), 6)},
		// A sum that leaves the numbers is entire, even if the rest would lead it back.
		{points(times(one, at(1, 1, 1), at(1, 1, -1), at(1, -1, 1))), points(rows(at(largest, 1, -1)))[0], of(entire, entire, point(largest-2))},
		{points(times(one, at(1, 1), at(0, 1))), points(rows(at(largest, -1)))[0], of(point(largest-1), point(-1))},
		{points(times(one, at(-1, -1), at(-1, 0))), points(rows(at(largest, 0)))[0], of(point(-largest), point(-largest))},
		{rows(of(point(one + 1))), of(point(largest)), of(entire)},
		// An entire factor makes the sum entire, even if the other factor is 0.
		{points(times(one, at(1, 0), at(0, 1))), of(entire, point(7)), of(entire, entire)},
		{rows(of(entire, zero), of(zero, point(one))), of(zero, point(7)), of(entire, point(7))},
		{full(6, entire), slices.Repeat(of(zero), 6), slices.Repeat(of(entire), 6)},
		{full(1, zero), of(entire), of(entire)},
	} {
		if got := Apply(x.m, x.b); !slices.Equal(got, x.want) {
			t.Errorf("Apply(%v, %v) = %v, want %v", x.m, x.b, got, x.want)
		}
	}
}

func TestMul(t *testing.T) {
	for _, x := range []struct{ a, b, want [][]api.Interval }{
		{points(times(one, at(1, 2), at(0, 1))), points(times(one, at(3, 0), at(-1, 5))), points(times(one, at(1, 10), at(-1, 5)))},
		{points(times(one, at(1, 2, 3), at(4, 5, 6), at(7, 8, 9))), points(times(one, at(1, 0, -1), at(2, 1, 0), at(0, 3, 1))), points(times(one, at(5, 11, 2), at(14, 23, 2), at(23, 35, 2)))},
		{rows(of(between(-one, 2*one))), rows(of(between(3*one, 4*one))), rows(of(between(-4*one, 8*one)))},
		{rows(of(between(0, one), point(one)), of(zero, between(-one, one))), rows(of(point(2*one), between(0, one)), of(between(1, 2), point(-3*one))), rows(of(between(1, 2*one+2), between(-3*one, -2*one)), of(between(-2, 2), between(-3*one, 3*one)))},
		{full(6, point(1)), full(6, point(1)), full(6, between(0, 6))},
		{full(6, point(one)), full(6, point(-one)), full(6, point(-6*one))},
		{points(times(one, at(1, 1), at(1, 0))), points(rows(at(largest, 1), at(1, largest))), rows(of(entire, entire), of(point(largest), point(1)))},
		{points(times(one, at(1, 1, 1), at(1, 1, 1), at(1, 1, 1))), points(rows(at(largest, largest, -largest), at(1, -1, -1), at(-1, 1, 1))), full3(entire, point(largest), entire)},
		{rows(of(entire, zero), of(zero, zero)), points(unity(2, 0)), rows(of(entire, entire), of(zero, zero))},
		{points(unity(2, 0)), rows(of(entire, zero), of(zero, zero)), rows(of(entire, zero), of(entire, zero))},
		{full(6, entire), full(6, zero), full(6, entire)},
		{full(1, entire), full(1, entire), full(1, entire)},
	} {
		if got := Mul(x.a, x.b); !equal(got, x.want) {
			t.Errorf("Mul(%v, %v) = %v, want %v", x.a, x.b, got, x.want)
		}
	}
}

// full3 returns the matrix of three equal rows.
func full3(a, b, c api.Interval) [][]api.Interval { return rows(of(a, b, c), of(a, b, c), of(a, b, c)) }

// calls calls every function, and returns the results.
func calls(a, b [][]api.Interval, c []api.Interval, l [][]int64, n int) (intervals [][][]api.Interval, numbers [][][]int64, others []bool) {
	inverse, ok := Inverse(a)
	intervals = [][][]api.Interval{Identity(n), FromNumbers(l), Transpose(a), rows(Apply(a, c)), Mul(a, b), inverse}
	return intervals, [][][]int64{Mid(a), Orthogonalize(l)}, []bool{Valid(a), ok}
}

// TestNothingPanics calls all functions with all kinds of arguments, those for
// which nothing else is specified among them.
func TestNothingPanics(t *testing.T) {
	l := append(misshapen(point(one)), full(1, entire), Identity(2), full(6, widest))
	for _, a := range invalidIntervals() {
		l = append(l, full(1, a), full(2, a), except(Identity(3), 1, 1, a), except(full(6, entire), 5, 0, a))
	}
	numbers := append(misshapen(int64(one)), nil, unity(6, largest))
	for _, x := range at(math.MinInt64, math.MaxInt64, math.MinInt64+1, 1<<32, 1<<40, 3<<47, -1<<60, 1<<62, largest) {
		numbers = append(numbers, full(1, x), full(3, x), full(6, x), unity(6, x), except(unity(3, one), 2, 0, x), except(full(6, x), 0, 5, -x))
	}
	boxes := rows(nil, of(zero), of(entire, widest), slices.Repeat(of(point(math.MinInt64)), 6), slices.Repeat(of(zero), 9))
	for i, a := range l {
		for k, b := range l {
			calls(a, b, boxes[k%len(boxes)], numbers[(i+k)%len(numbers)], k-9)
		}
	}
	for i, m := range numbers {
		calls(l[0], l[0], nil, m, math.MinInt+i)
	}
}

// examples returns arguments for calls.
func examples() (a, b [][]api.Interval, c []api.Interval, l [][]int64) {
	a = rows(of(between(-7, 555), point(3*one)), of(between(one, 2*one), between(3, 9)))
	b = rows(of(between(1, 600), entire), of(zero, point(-one)))
	return a, b, of(point(7), widest), rows(at(0, 4*one), at(-5*one, one))
}

// TestResultsDependOnArgumentsOnly calls the functions again after other calls: P2 of the document.
func TestResultsDependOnArgumentsOnly(t *testing.T) {
	a, b, c, l := examples()
	intervals, numbers, others := calls(a, b, c, l, 2)
	calls(full(6, entire), full(6, widest), slices.Repeat(of(zero), 6), full(6, int64(steep)), 7)
	intervals2, numbers2, others2 := calls(a, b, c, l, 2)
	if !slices.EqualFunc(intervals, intervals2, equal) || !slices.EqualFunc(numbers, numbers2, equal) || !slices.Equal(others, others2) {
		t.Errorf("first %v, %v, %v, then %v, %v, %v", intervals, numbers, others, intervals2, numbers2, others2)
	}
	if !others[1] {
		t.Errorf("%v has no inverse", a)
	}
}

// overwrite fills a matrix, with all the room behind its rows, which belongs to it as well.
func overwrite[T any](m [][]T, x T) {
	for _, row := range m {
		row = row[:cap(row)]
		for k := range row {
			row[k] = x
		}
	}
}

func filled[T comparable](m [][]T, x T) bool {
	return !slices.ContainsFunc(m, func(row []T) bool {
		return len(row) == 0 || slices.ContainsFunc(row, func(y T) bool { return x != y })
	})
}

// TestResultsAreNewMemory overwrites the rows of the results: neither the
// arguments nor another row may change.
func TestResultsAreNewMemory(t *testing.T) {
	a, b, c, l := examples()
	intervals, numbers, _ := calls(a, b, c, l, 2)
	var parts [][][]api.Interval
	for _, m := range intervals {
		for i := range m {
			parts = append(parts, m[i:i+1])
		}
	}
	for i, row := range parts {
		overwrite(row, point(int64(-i)))
	}
	for i, row := range parts {
		if !filled(row, point(int64(-i))) {
			t.Errorf("row %d was overwritten: %v", i, row)
		}
	}
	for i, m := range numbers {
		for k := range m {
			overwrite(m[k:k+1], int64(10*i+k))
		}
		for k := range m {
			if !filled(m[k:k+1], int64(10*i+k)) {
				t.Errorf("a row was overwritten: %v", m)
			}
		}
	}
	if a2, b2, c2, l2 := examples(); !equal(a, a2) || !equal(b, b2) || !slices.Equal(c, c2) || !equal(l, l2) {
		t.Error("an argument has changed:", a, b, c, l)
	}
}

// TestImports checks that the package imports no other layers than fixed, interval and box.
func TestImports(t *testing.T) {
	files, err := filepath.Glob("*.go")
	if err != nil || len(files) == 0 {
		t.Fatal("no files", err)
	}
	allowed := []string{`"armillary/api"`, `"armillary/fixed"`, `"armillary/interval"`, `"armillary/box"`}
	for _, name := range files {
		if strings.HasSuffix(name, "_test.go") {
			continue
		}
		file, err := parser.ParseFile(token.NewFileSet(), name, nil, parser.ImportsOnly)
		if err != nil {
			t.Fatal(err)
		}
		for _, spec := range file.Imports {
			if path := spec.Path.Value; strings.HasPrefix(path, `"armillary`) && !slices.Contains(allowed, path) {
				t.Errorf("%s imports %s", name, path)
			}
		}
	}
}
