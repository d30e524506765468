package step

import (
	"go/parser"
	"go/token"
	"math"
	"path/filepath"
	"slices"
	"strings"
	"testing"

	"armillary/api"
	"armillary/box"
	"armillary/ode"
	"armillary/tape"
	"armillary/taylor"
)

// Tests of P12.1: the functions return what L1 to L3 say, and those of L4 in
// models_test.go.

const (
	one     = api.One
	largest = api.Max - 1
)

var entire = api.Interval{Lo: -api.Max, Hi: api.Max}

func between(lo, hi int64) api.Interval { return api.Interval{Lo: lo, Hi: hi} }

func point(x int64) api.Interval { return between(x, x) }

// whole returns the interval between two integers.
func whole(lo, hi int64) api.Interval { return between(lo*one, hi*one) }

// of returns a box, at a time step, and during a part of one.
func of(l ...api.Interval) []api.Interval { return l }

func at(start, h int64) api.TimeStep { return api.TimeStep{T: start, H: h} }

func during(g api.TimeStep, part api.Interval, order int) api.StepWindow {
	return api.StepWindow{T: g.T, H: g.H, Part: part, Order: order}
}

// compiled returns the tape of a system.
func compiled(t *testing.T, text string) api.Tape {
	t.Helper()
	s, offset, err := ode.Parse(text)
	if err != api.OK {
		t.Fatalf("%q is no system: error %v at %d", text, err, offset)
	}
	return tape.Compile(s)
}

// do returns an instruction with the given indices in its fields A and B.
func do(op int, at ...int) api.Instruction {
	fields := append(slices.Clone(at), 0, 0)
	return api.Instruction{Op: op, A: fields[0], B: fields[1]}
}

// value returns the instruction of a constant.
func value(a api.Interval) api.Instruction { return api.Instruction{Op: api.Num, C: a} }

// tapeOf returns a tape whose dimension is the number of its outputs.
func tapeOf(out []int, l ...api.Instruction) api.Tape {
	return api.Tape{N: len(out), L: l, Out: out}
}

func equalSegments(a, b api.Segment) bool {
	return a.T == b.T && a.H == b.H && slices.Equal(a.From, b.From) && slices.Equal(a.Pre, b.Pre) && slices.Equal(a.Tube, b.Tube) && slices.Equal(a.To, b.To)
}

// isZero reports whether a segment has no values.
func isZero(s api.Segment) bool { return equalSegments(s, api.Segment{}) }

func TestRemainder(t *testing.T) {
	for _, y := range []struct {
		text  string
		b     []api.Interval
		g     api.TimeStep
		order int
		want  []api.Interval
	}{
		{"x'=3", of(point(5)), at(0, one), 0, of(whole(3, 3))},
		{"x'=3", of(point(5)), at(0, one), 1, of(point(0))},
		{"x'=3", of(point(5)), at(0, one), 7, of(point(0))},
		{"x'=[-1,2]", of(entire), at(0, one), 0, of(whole(-1, 2))},
		{"x'=[-1,2]", of(entire), at(0, one), 6, of(point(0))},
		{"x'=all", of(point(5)), at(0, one), 0, of(entire)},
		{"x'=all", of(point(5)), at(0, one), 1, of(point(0))},
		{"x'=sqr(x)", of(whole(2, 2)), at(0, one), 0, of(whole(4, 4))},
		{"x'=sqr(x)", of(whole(2, 2)), at(0, one), 1, of(whole(8, 8))},
		{"x'=sqr(x)", of(whole(2, 2)), at(0, one), 2, of(whole(16, 16))},
		{"x'=sqr(x)", of(whole(-1, 2)), at(0, one), 0, of(whole(0, 4))},
		// Coefficients 1 to 8 of exp(x) for x = 1 and 2, each divided and rounded outward.
		{"x'=x", of(whole(1, 2)), at(0, one), 0, of(whole(1, 2))},
		{"x'=x", of(whole(1, 2)), at(0, one), 1, of(between(32768, 65536))},
		{"x'=x", of(whole(1, 2)), at(0, one), 2, of(between(10922, 21846))},
		{"x'=x", of(whole(1, 2)), at(0, one), 3, of(between(2730, 5462))},
		{"x'=x", of(whole(1, 2)), at(0, one), 4, of(between(546, 1093))},
		{"x'=x", of(whole(1, 2)), at(0, one), 5, of(between(91, 183))},
		{"x'=x", of(whole(1, 2)), at(0, one), 6, of(between(13, 27))},
		{"x'=x", of(whole(1, 2)), at(0, one), 7, of(between(1, 4))},
		// The time is any of the step, also at the least and the greatest number.
		{"x'=t", of(point(0)), at(one, 2*one), 0, of(whole(1, 3))},
		{"x'=t", of(point(0)), at(one, 2*one), 1, of(point(one / 2))},
		{"x'=t", of(point(0)), at(one, 2*one), 2, of(point(0))},
		{"x'=t", of(point(0)), at(-one, one), 0, of(whole(-1, 0))},
		{"x'=t", of(point(0)), at(-one, 3*one), 0, of(whole(-1, 2))},
		{"x'=sqr(t)", of(point(0)), at(-one, 3*one), 0, of(whole(0, 4))},
		{"x'=sqr(t)", of(point(0)), at(-one, 3*one), 1, of(whole(-1, 2))},
		{"x'=t", of(point(0)), at(5, 1), 0, of(between(5, 6))},
		{"x'=t", of(point(0)), at(-largest, 1), 0, of(between(-largest, 1-largest))},
		{"x'=t", of(point(0)), at(-largest, largest), 0, of(between(-largest, 0))},
		{"x'=t", of(point(0)), at(largest-1, 1), 0, of(between(largest-1, largest))},
		{"x'=t", of(point(0)), at(0, largest), 0, of(between(0, largest))},
		{"x'=t", of(point(0)), at(-1, largest), 0, of(between(-1, largest-1))},
		{"x'=t*x", of(whole(1, 2)), at(one, 2*one), 0, of(whole(1, 6))},
		// (x + t * t * x) / 2.
		{"x'=t*x", of(whole(1, 2)), at(one, 2*one), 1, of(whole(1, 10))},
		// Several coordinates, each with its own coefficient.
		{"x'=v\nv'=-x", of(whole(0, 1), whole(2, 3)), at(0, one), 0, of(whole(2, 3), whole(-1, 0))},
		{"x'=v\nv'=-x", of(whole(0, 1), whole(2, 3)), at(0, one), 1, of(between(-one/2, 0), between(-3*one/2, -one))},
		{"x'=v\nv'=w\nw'=6", of(point(0), point(0), whole(4, 8)), at(0, one), 1, of(whole(2, 4), whole(3, 3), point(0))},
		{"x'=v\nv'=w\nw'=6", of(point(0), point(0), whole(4, 8)), at(0, one), 2, of(whole(1, 1), point(0), point(0))},
		{"a'=b\nb'=c\nc'=d\nd'=e\ne'=f\nf'=a", of(whole(0, 1), whole(2, 3), whole(4, 5), whole(6, 7), whole(8, 9), whole(10, 11)), at(0, one), 0, of(whole(2, 3), whole(4, 5), whole(6, 7), whole(8, 9), whole(10, 11), whole(0, 1))},
		{"a'=b\nb'=c\nc'=d\nd'=e\ne'=f\nf'=a", of(whole(0, 1), whole(2, 3), whole(4, 5), whole(6, 7), whole(8, 9), whole(10, 11)), at(0, one), 1, of(between(2*one, 5*one/2), between(3*one, 7*one/2), between(4*one, 9*one/2), between(5*one, 11*one/2), between(0, one/2), between(one, 3*one/2))},
		// What is not bounded, from some order on.
		{"x'=1/x", of(whole(0, 1)), at(0, one), 0, of(entire)},
		{"x'=1/x", of(whole(1, 2)), at(0, one), 0, of(between(one/2, one))},
		{"x'=sqrt(sqr(x))", of(whole(-1, 1)), at(0, one), 0, of(whole(0, 1))},
		{"x'=sqrt(sqr(x))", of(whole(-1, 1)), at(0, one), 1, of(entire)},
		{"x'=sqrt(t)\nv'=t", of(point(0), point(0)), at(0, one), 1, of(entire, point(one/2))},
		{"x'=sqrt(t)\nv'=t", of(point(0), point(0)), at(-1, one), 0, of(entire, between(-1, one-1))},
		{"x'=x", of(entire), at(0, one), 7, of(entire)},
	} {
		if got := Remainder(compiled(t, y.text), y.b, y.g, y.order); !slices.Equal(got, y.want) {
			t.Errorf("Remainder(%q, %v, %v, %d) = %v, want %v", y.text, y.b, y.g, y.order, got, y.want)
		}
	}
}

// enclosure is a call of EnclosureAt with its result.
type enclosure struct {
	text string
	x, b []api.Interval
	w    api.StepWindow
	want []api.Interval
}

func checkEnclosures(t *testing.T, l []enclosure) {
	t.Helper()
	for _, y := range l {
		if got := EnclosureAt(compiled(t, y.text), y.x, y.b, y.w); !slices.Equal(got, y.want) {
			t.Errorf("EnclosureAt(%q, %v, %v, %v) = %v, want %v", y.text, y.x, y.b, y.w, got, y.want)
		}
	}
}

func TestEnclosureAt(t *testing.T) {
	zero, unit, wide := of(point(0)), of(whole(1, 1)), of(whole(-99, 99))
	half := int64(one / 2)
	checkEnclosures(t, []enclosure{
		// Parts of a step: its start, its end, all of it, and something within.
		{"x'=2", unit, wide, during(at(0, one), point(0), 1), unit},
		{"x'=2", unit, wide, during(at(0, one), point(one), 1), of(whole(3, 3))},
		{"x'=2", unit, wide, during(at(0, one), between(0, one), 1), of(whole(1, 3))},
		{"x'=2", unit, wide, during(at(0, one), between(half, one), 1), of(whole(2, 3))},
		{"x'=2", unit, wide, during(at(0, one), between(half, half+1), 1), of(between(2*one, 2*one+2))},
		{"x'=2", unit, wide, during(at(0, 1), between(0, 1), 1), of(between(one, one+2))},
		{"x'=2", unit, wide, during(at(0, 1), point(1), 0), of(point(one + 2))},
		{"x'=2", of(whole(1, 4)), wide, during(at(0, one), point(one), 7), of(whole(3, 6))},
		{"x'=2", unit, wide, during(at(-largest, 32*one), between(0, 32*one), 1), of(whole(1, 65))},
		{"x'=2", unit, wide, during(at(0, largest), between(0, 32*one), 1), of(whole(1, 65))},
		// The series starts at the start of the step, even if that of the part is later;
		// its last coefficient is that of all times of the step, and of all states in b.
		{"x'=t", zero, wide, during(at(2*one, one), point(one), 0), of(whole(2, 3))},
		{"x'=t", zero, wide, during(at(2*one, one), point(half), 0), of(between(one, 3*half))},
		{"x'=t", zero, wide, during(at(2*one, 6*one), point(half), 0), of(whole(1, 4))},
		{"x'=t", zero, wide, during(at(2*one, one), point(one), 1), of(point(5 * half))},
		{"x'=t", zero, wide, during(at(2*one, one), point(one), 2), of(point(5 * half))},
		{"x'=t", zero, wide, during(at(2*one, one), between(0, one), 1), of(between(0, 5*half))},
		{"x'=t", zero, wide, during(at(2*one, one), between(half, one), 1), of(between(9*one/8, 5*half))},
		{"x'=t", zero, wide, during(at(-2*one, one), point(one), 1), of(point(-3 * half))},
		{"x'=t", zero, wide, during(at(-2*one, one), point(one), 0), of(whole(-2, -1))},
		{"x'=x", unit, of(whole(1, 3)), during(at(0, one), point(half), 0), of(between(3*half, 5*half))},
		{"x'=x", unit, of(whole(1, 3)), during(at(0, one), point(half), 1), of(between(13*one/8, 15*one/8))},
		{"x'=x", unit, of(whole(-1, 3)), during(at(0, one), point(half), 0), of(between(half, 5*half))},
		{"x'=x", of(whole(1, 2)), of(whole(1, 3)), during(at(0, one), point(half), 1), of(between(13*one/8, 3*one))},
		// Horner's rule for the coefficients 1, 1, and from 1/2 to 3/2, in units, each
		// time rounded outward.
		{"x'=x", of(point(1)), of(between(1, 3)), during(at(0, one), point(half), 1), of(between(1, 2))},
		{"x'=x", unit, unit, during(at(0, one), between(0, half), 0), unit},
		{"x'=-x", unit, of(whole(0, 1)), during(at(0, one), between(0, one), 1), of(whole(0, 1))},
		{"x'=-x", unit, of(whole(0, 1)), during(at(0, one), point(one), 1), of(between(0, half))},
		{"x'=-x", unit, of(whole(0, 1)), during(at(0, one), point(half), 1), of(between(half, 5*one/8))},
		{"x'=v\nv'=-x", of(whole(0, 0), whole(1, 1)), of(whole(0, 1), whole(0, 1)), during(at(0, one), point(one), 1), of(between(half, one), between(half, one))},
		{"x'=v\nv'=-x", of(whole(0, 0), whole(1, 1)), of(whole(0, 1), whole(0, 1)), during(at(0, one), between(0, one), 1), of(whole(0, 1), between(half, one))},
		{"a'=1\nb'=2\nc'=3\nd'=-4\ne'=-5\nf'=0", slices.Repeat(zero, 6), slices.Repeat(wide, 6), during(at(0, one), point(half), 3), of(point(half), whole(1, 1), point(3*half), whole(-2, -2), point(-5*half), point(0))},
		// A series with a coefficient that is entire tells nothing, even at its start.
		{"x'=sqrt(sqr(x))", unit, of(whole(-3, 3)), during(at(0, one), point(0), 1), of(whole(-3, 3))},
		{"x'=sqrt(sqr(x))", unit, of(whole(-3, 3)), during(at(0, one), point(0), 0), unit},
		{"x'=sqrt(sqr(x))", of(whole(-1, 1)), of(whole(1, 2)), during(at(0, one), point(one), 2), of(whole(1, 2))},
		{"x'=1/x", of(whole(-1, 1)), of(whole(1, 2)), during(at(0, one), point(one), 2), of(whole(1, 2))},
		{"x'=1/x\nv'=1", of(whole(-1, 1), point(0)), of(whole(1, 2), wide[0]), during(at(0, one), point(one), 2), of(whole(1, 2), whole(1, 1))},
		{"x'=30000", of(whole(30000, 30000)), wide, during(at(0, one), point(one), 1), wide},
		{"x'=all", zero, of(entire), during(at(0, one), point(one), 0), of(entire)},
		{"x'=2", of(entire), wide, during(at(0, one), point(one), 1), wide},
	})
}

// TestRestriction has boxes b that overlap with an interval, lie in it or contain it,
// touch it in one point, or are disjoint from it.
func TestRestriction(t *testing.T) {
	a := whole(2, 4)
	for _, y := range []struct{ b, want api.Interval }{
		{whole(2, 4), whole(2, 4)}, {whole(1, 5), whole(2, 4)}, {whole(2, 5), whole(2, 4)}, {whole(1, 4), whole(2, 4)}, {entire, whole(2, 4)},
		{whole(3, 3), whole(3, 3)}, {between(2*one+1, 4*one-1), between(2*one+1, 4*one-1)}, {whole(2, 3), whole(2, 3)}, {whole(3, 4), whole(3, 4)},
		{whole(1, 3), whole(2, 3)}, {whole(3, 5), whole(3, 4)}, {between(0, 2*one+1), between(2*one, 2*one+1)}, {between(4*one-1, 9*one), between(4*one-1, 4*one)},
		{whole(1, 2), whole(2, 2)}, {whole(4, 5), whole(4, 4)}, {whole(2, 2), whole(2, 2)}, {whole(4, 4), whole(4, 4)},
		{between(0, 2*one-1), between(0, 2*one-1)}, {between(4*one+1, 9*one), between(4*one+1, 9*one)}, {whole(7, 9), whole(7, 9)}, {point(0), point(0)}, {between(-largest, -1), between(-largest, -1)},
	} {
		c := compiled(t, "x'=0\nv'=1\nw'=0")
		for i := range 3 {
			// The other coordinates are not concerned.
			x, b := of(point(0), point(0), point(0)), slices.Repeat(of(whole(-9, 9)), 3)
			want := of(point(0), whole(1, 1), point(0))
			x[i], b[i], want[i] = a, y.b, y.want
			if i == 1 {
				x[i] = whole(1, 3)
			}
			for order := range 8 {
				if got := EnclosureAt(c, x, b, during(at(0, one), point(one), order)); !slices.Equal(got, want) {
					t.Errorf("coordinate %d of %v is restricted to %v at order %d: %v, want %v", i, x, b, order, got, want)
				}
			}
		}
	}
}

// intervalStep is a call of IntervalStep with its result.
type intervalStep struct {
	text  string
	x     []api.Interval
	g     api.TimeStep
	order int
	// pre, tube and to are the boxes of the segment, or all nil.
	pre, tube, to []api.Interval
}

// segment returns the segment of a step.
func (y intervalStep) segment() api.Segment {
	if y.to == nil {
		return api.Segment{}
	}
	return api.Segment{T: y.g.T, H: y.g.H, From: y.x, Pre: y.pre, Tube: y.tube, To: y.to}
}

func checkSteps(t *testing.T, l []intervalStep) {
	t.Helper()
	for _, y := range l {
		got, ok := IntervalStep(compiled(t, y.text), y.x, y.g, y.order)
		if want := y.segment(); !equalSegments(got, want) || ok != (y.to != nil) {
			t.Errorf("IntervalStep(%q, %v, %v, %d) = %v, %v, want %v", y.text, y.x, y.g, y.order, got, ok, want)
		}
	}
}

// TestExplicitSteps has systems whose solutions are polynomials of degree 2 at most, so
// that the steps of all orders from 1 on are equal.
func TestExplicitSteps(t *testing.T) {
	zero, half := of(point(0)), int64(one/2)
	for _, y := range []intervalStep{
		{"x'=0", of(whole(-1, 2)), at(0, one), 0, of(whole(-1, 2)), of(whole(-1, 2)), of(whole(-1, 2))},
		{"x'=1", zero, at(0, half), 0, of(between(0, half)), of(between(0, half)), of(point(half))},
		{"x'=1", zero, at(0, 1), 0, of(between(0, 1)), of(between(0, 1)), of(point(1))},
		{"x'=1", of(between(-7, 9)), at(-5, 3), 0, of(between(-7, 12)), of(between(-7, 12)), of(between(-4, 12))},
		{"x'=-3", of(whole(1, 2)), at(-one, 2*one), 0, of(whole(-5, 2)), of(whole(-5, 2)), of(whole(-5, -4))},
		{"x'=[-1,2]", of(whole(5, 5)), at(0, 3*one), 0, of(whole(2, 11)), of(whole(2, 11)), of(whole(2, 11))},
		{"x'=[1,2]", of(whole(5, 5)), at(0, 3*one), 0, of(whole(5, 11)), of(whole(5, 11)), of(whole(8, 11))},
		{"x'=1", of(point(-1 << 29)), at(0, 1<<30), 0, of(between(-1<<29, 1<<29)), of(between(-1<<29, 1<<29)), of(point(1 << 29))},
		{"x'=1", of(point(-largest + 1<<28)), at(-largest, 1<<30), 0, of(between(-largest+1<<28, -largest+1<<28+1<<30)), of(between(-largest+1<<28, -largest+1<<28+1<<30)), of(point(-largest + 1<<28 + 1<<30))},
		{"x'=0", zero, at(-largest, largest), 0, zero, zero, zero},
		{"x'=0", zero, at(0, largest), 0, zero, zero, zero},
		{"x'=0", zero, at(-1, largest), 0, zero, zero, zero},
		{"x'=1", zero, at(largest-1, 1), 0, of(between(0, 1)), of(between(0, 1)), of(point(1))},
		{"x'=1", zero, at(-largest, 1), 0, of(between(0, 1)), of(between(0, 1)), of(point(1))},
		{"x'=t", zero, at(0, one), 1, of(whole(0, 1)), of(between(0, half)), of(point(half))},
		{"x'=t", zero, at(2*one, one), 1, of(whole(0, 3)), of(between(0, 5*half)), of(point(5 * half))},
		{"x'=t", of(whole(1, 2)), at(2*one, one), 1, of(whole(1, 5)), of(between(one, 9*half)), of(between(7*half, 9*half))},
		{"x'=t", zero, at(-2*one, one), 1, of(whole(-2, 0)), of(whole(-2, 0)), of(point(-3 * half))},
		{"x'=t", zero, at(-one, 2*one), 1, of(whole(-2, 2)), of(whole(-2, 0)), zero},
		{"x'=t", zero, at(5*one, 1), 1, of(between(0, 6)), of(between(0, 6)), of(between(5, 6))},
		// At the least and the greatest times, x changes by about 32768 units in a unit of
		// time.
		{"x'=t", zero, at(-largest, 1), 1, of(between(-32768, 0)), of(between(-32768, 0)), of(between(-32768, -32767))},
		{"x'=t", zero, at(largest-1, 1), 1, of(between(0, 32768)), of(between(0, 32768)), of(between(32767, 32768))},
		{"x'=t\nv'=-2", of(point(0), whole(1, 3)), at(2*one, one), 1, of(whole(0, 3), whole(-1, 3)), of(between(0, 5*half), whole(-1, 3)), of(point(5*half), whole(-1, 1))},
		{"a'=1\nb'=2\nc'=3\nd'=-4\ne'=-5\nf'=[-6,6]", slices.Repeat(zero, 6), at(0, one), 0, of(whole(0, 1), whole(0, 2), whole(0, 3), whole(-4, 0), whole(-5, 0), whole(-6, 6)), of(whole(0, 1), whole(0, 2), whole(0, 3), whole(-4, 0), whole(-5, 0), whole(-6, 6)), of(whole(1, 1), whole(2, 2), whole(3, 3), whole(-4, -4), whole(-5, -5), whole(-6, 6))},
	} {
		for ; y.order < 8; y.order++ {
			checkSteps(t, []intervalStep{y})
		}
	}
	// The time of order 0 is any of the step.
	checkSteps(t, []intervalStep{
		{"x'=t", zero, at(0, one), 0, of(whole(0, 1)), of(whole(0, 1)), of(whole(0, 1))},
		{"x'=t", zero, at(2*one, one), 0, of(whole(0, 3)), of(whole(0, 3)), of(whole(2, 3))},
		{"x'=t", zero, at(-2*one, one), 0, of(whole(-2, 0)), of(whole(-2, 0)), of(whole(-2, -1))},
		{"x'=t", zero, at(-largest, 1), 0, of(between(-32768, 0)), of(between(-32768, 0)), of(between(-32768, -32767))},
	})
}

func TestIntervalStep(t *testing.T) {
	unit, quarter := of(whole(1, 1)), int64(one/4)
	pre := of(between(65536, 87445))
	checkSteps(t, []intervalStep{
		// exp(1/4) is 84150.03 units.
		{"x'=x", unit, at(0, quarter), 0, pre, of(between(65536, 87398)), of(between(81920, 87398))},
		{"x'=x", unit, at(0, quarter), 1, pre, of(between(65536, 84653)), of(between(83968, 84653))},
		{"x'=x", unit, at(0, quarter), 2, pre, of(between(65536, 84196)), of(between(84138, 84196))},
		{"x'=x", unit, at(0, quarter), 3, pre, of(between(65536, 84153)), of(between(84149, 84153))},
		{"x'=x", unit, at(0, quarter), 4, pre, of(between(65536, 84151)), of(between(84149, 84151))},
		{"x'=x", unit, at(0, quarter), 7, pre, of(between(65536, 84150)), of(between(84149, 84150))},
		{"x'=x", unit, at(-largest, quarter), 7, pre, of(between(65536, 84150)), of(between(84149, 84150))},
		{"x'=x", unit, at(largest-quarter, quarter), 7, pre, of(between(65536, 84150)), of(between(84149, 84150))},
		{"x'=-x", unit, at(0, quarter), 4, of(between(48895, 65536)), of(between(49152, 65536)), of(between(51039, 51040))},
		// sin(1/4) is 16213.68, and cos(1/4) 63498.67.
		{"x'=v\nv'=-x", of(point(0), whole(1, 1)), at(5*one, quarter), 5, of(between(0, 16521), between(60895, 66081)), of(between(0, 16384), between(63488, 65536)), of(between(16213, 16214), between(63498, 63499))},
	})
}

// TestExamples is about the examples of the chapter.
func TestExamples(t *testing.T) {
	s, ok := IntervalStep(compiled(t, "x' = 1"), of(point(0)), at(0, one/2), 3)
	if !ok || !slices.Equal(s.To, of(point(one/2))) || !slices.Equal(s.Tube, of(between(0, one/2))) {
		t.Errorf("the step of x' = 1 is %v, %v", s, ok)
	}
	s, ok = IntervalStep(compiled(t, "x' = -x"), of(whole(1, 1)), at(0, one/4), 4)
	if want := math.Exp(-0.25) * one; !ok || float64(s.To[0].Lo) > want || float64(s.To[0].Hi) < want || s.To[0].Hi-s.To[0].Lo > 60 {
		t.Errorf("the step of x' = -x is %v, %v, and exp(-1/4) is %v", s, ok, want)
	}
}

// failure is a step without an enclosure, for any order and degree.
type failure struct {
	text string
	x    []api.Interval
	g    api.TimeStep
}

func failures() []failure {
	return []failure{
		{"x'=1/x", of(point(0)), at(0, 9)},
		{"x'=1/x", of(whole(-1, 1)), at(0, 1)},
		{"x'=1/x\nv'=1", of(whole(-1, 1), point(0)), at(0, 1)},
		{"x'=1\nv'=1/v", of(point(0), whole(-1, 1)), at(0, 1)},
		{"x'=sqrt(x)", of(whole(-1, -1)), at(0, 9)},
		{"x'=sqrt(x)", of(point(0)), at(0, 9)},
		{"x'=1/t", of(point(0)), at(-one, 2*one)},
		{"x'=sqrt(t)", of(point(0)), at(-1, 2)},
		{"x'=sqr(x)", of(whole(100, 100)), at(0, one)},
		{"x'=x", of(whole(1, 1)), at(0, one)},
		{"x'=x", of(between(-largest, largest)), at(0, 9)},
		{"x'=x", of(entire), at(0, 9)},
		{"x'=0", of(entire), at(0, 1)},
		{"x'=0", of(point(largest)), at(0, 1)},
		{"x'=0", of(point(-largest)), at(0, 1)},
		{"x'=all", of(point(0)), at(0, 1)},
		{"x'=1", of(whole(30000, 30000)), at(0, largest)},
		{"x'=t", of(point(0)), at(-largest, one)},
		{"x'=30000", of(whole(30000, 30000)), at(0, one)},
		{"x'=20000", of(whole(-30000, -30000)), at(0, 2*one)},
	}
}

func TestFailures(t *testing.T) {
	for _, y := range failures() {
		for order := range 8 {
			if s, ok := IntervalStep(compiled(t, y.text), y.x, y.g, order); ok || !isZero(s) {
				t.Errorf("IntervalStep(%q, %v, %v, %d) = %v, %v", y.text, y.x, y.g, order, s, ok)
			}
		}
	}
}

// TestEntireSeries has steps whose series are entire during the step, or at its end, or
// in some coordinates: they are still in the enclosure.
func TestEntireSeries(t *testing.T) {
	// The slope is that of sqrt(sqr(x)), and from its derivative on nothing is known.
	edge := of(whole(-1, 1))
	pre := of(between(-65536, 75841))
	checkSteps(t, []intervalStep{
		{"x'=sqrt(sqr(x))", edge, at(0, one/8), 0, pre, of(between(-65536, 75017)), of(between(-65536, 75017))},
		{"x'=sqrt(sqr(x))", edge, at(0, one/8), 1, pre, pre, pre},
		{"x'=sqrt(sqr(x))", edge, at(0, one/8), 7, pre, pre, pre},
		{"x'=sqrt(sqr(x))\nv'=1", append(edge, point(0)), at(0, one/8), 1, append(pre, between(0, one/8)), append(pre, between(0, one/8)), append(pre, point(one/8))},
		{"v'=1\nx'=sqrt(sqr(x))", append(of(point(0)), edge...), at(0, one/8), 1, append(of(between(0, one/8)), pre...), append(of(between(0, one/8)), pre...), append(of(point(one/8)), pre...)},
		// The slope is known, but not its derivative at the start.
		{"x'=sqrt(t)", of(point(0)), at(0, one), 0, of(whole(0, 1)), of(whole(0, 1)), of(whole(0, 1))},
		{"x'=sqrt(t)", of(point(0)), at(0, one), 1, of(whole(0, 1)), of(whole(0, 1)), of(whole(0, 1))},
	})
	// The polynomial 20000 + 1500 t^2 - 500 t^3 is 20000 at the end, but the enclosure of
	// its first two terms during the step is not bounded.
	high := whole(20000, 20000)
	checkSteps(t, []intervalStep{
		{"x'=1500-1500*sqr(t-1)", of(high), at(0, 3*one), 3, of(whole(6500, 24500)), of(whole(6500, 24500)), of(high)},
		{"x'=1500-1500*sqr(t-1)", of(high), at(0, 3*one), 7, of(whole(6500, 24500)), of(whole(6500, 24500)), of(high)},
		{"x'=1500-1500*sqr(t-1)", of(whole(10000, 10000)), at(0, 3*one), 3, of(whole(-3500, 14500)), of(whole(10000, 14500)), of(whole(10000, 10000))},
		{"x'=1500-1500*sqr(t-1)\nv'=-1", of(high, whole(1, 2)), at(0, 3*one), 3, of(whole(6500, 24500), whole(-2, 2)), of(whole(6500, 24500), whole(-2, 2)), of(high, whole(-2, -1))},
	})
	// One that starts where the derivative is known tells more than the enclosure.
	s, ok := IntervalStep(compiled(t, "x'=sqrt(t)"), of(point(0)), at(one, one), 1)
	if !ok || s.To[0].Lo <= one || s.To[0].Hi >= 3*one/2 {
		t.Errorf("the step of x' = sqrt(t) is %v, %v", s, ok)
	}
}

// doublings returns a chain of instructions each of which adds the one before to itself.
func doublings(length int) []api.Instruction {
	l := []api.Instruction{do(api.Time)}
	for i := range length - 1 {
		l = append(l, do(api.Add, i, i))
	}
	return l
}

// oddTapes returns tapes that are not valid.
func oddTapes() []api.Tape {
	return []api.Tape{
		{}, {N: 1}, {N: math.MaxInt}, {N: math.MinInt, Out: []int{0}}, {N: 1, Out: []int{0}}, {N: 1, Out: []int{-1}}, {N: 1, L: doublings(1)}, {N: 3, L: doublings(1), Out: []int{0}}, {N: 7, L: doublings(1), Out: make([]int, 7)}, {L: doublings(1), Out: []int{0}},
		tapeOf([]int{0, 1}, do(api.Add, 1, 1), do(api.Add, 0, 0)), tapeOf([]int{0}, do(api.Neg, 0)), tapeOf([]int{0}, do(api.Div, -1, math.MaxInt)), tapeOf([]int{1}, do(api.Time)), tapeOf([]int{math.MinInt}, do(api.Time)),
		tapeOf([]int{0}, api.Instruction{}), tapeOf([]int{0}, do(11)), tapeOf([]int{0}, do(api.Var, 1)), tapeOf([]int{0}, value(between(1, 0))), tapeOf([]int{400}, doublings(401)...), tapeOf([]int{999}, doublings(999)...),
	}
}

// every returns a tape with all operations.
func every() api.Tape {
	return tapeOf([]int{8, 9}, do(api.Var, 0), do(api.Var, 1), do(api.Time), value(whole(1, 2)), do(api.Div, 0, 1), do(api.Sqrt, 4), do(api.Sqr, 5), do(api.Neg, 6), do(api.Mul, 7, 3), do(api.Sub, 8, 2), do(api.Add, 9, 8))
}

// oddModels returns models that are not valid, or cannot be computed with.
func oddModels() []api.TaylorModel {
	return []api.TaylorModel{
		{R: entire}, {P: []api.Term{term(1), term(1)}}, {P: []api.Term{term(one, 255, 255, 255, 255, 255, 255)}}, {P: []api.Term{term(math.MinInt64, 1), term(math.MaxInt64)}},
		{P: []api.Term{term(one, 1)}, R: entire}, {R: between(1, 0)}, {R: between(math.MaxInt64, math.MinInt64)}, {P: slices.Repeat([]api.Term{term(one, 3)}, 101)},
	}
}

// TestNothingPanics calls all functions with all kinds of arguments, those for
// which nothing else is specified among them.
func TestNothingPanics(t *testing.T) {
	boxes := [][]api.Interval{nil, {entire}, {between(1, 0)}, {point(1), point(2)}, {whole(1, 2), whole(1, 2)}, {whole(1, 2), between(1, 0)}, {point(api.Max), between(5, 0)}, {between(math.MinInt64, math.MaxInt64), between(math.MaxInt64, math.MinInt64)}, make([]api.Interval, 7)}
	steps := []api.TimeStep{{}, {H: 1}, {H: -1}, {T: largest, H: 1}, {T: math.MaxInt64, H: 1}, {T: math.MinInt64, H: math.MaxInt64}, {T: math.MinInt64, H: math.MinInt64}}
	orders := []int{0, 7, 8, -1, -2, math.MaxInt, math.MinInt}
	models := [][]api.TaylorModel{nil, oddModels()[:1], oddModels()[:2], oddModels()[2:4], oddModels()[4:6], oddModels()[6:], oddModels()[:7], FromBox(boxes[4]), FromBox(boxes[6]), FromBox(boxes[7]), FromBox(boxes[8])}
	for _, c := range append(oddTapes(), every(), tapeOf([]int{399}, doublings(400)...)) {
		for _, g := range steps {
			for _, order := range orders {
				for _, x := range boxes {
					Remainder(c, x, g, order)
					for _, b := range boxes {
						EnclosureAt(c, x, b, during(g, between(g.H, 0), order))
					}
					if s, ok := IntervalStep(c, x, g, order); ok && !tape.Valid(c) || !ok && !isZero(s) || ok && len(s.To) == 0 {
						t.Errorf("IntervalStep(%v, %v, %v, %v) = %v, %v", c, x, g, order, s, ok)
					}
				}
				for _, x := range models {
					Ranges(x)
					for _, deg := range []int{1, -1, 7, math.MinInt} {
						if m, s, ok := ModelStep(c, x, g, api.Expansion{Order: order, Deg: deg}); ok && !tape.Valid(c) || !ok && (len(m) > 0 || !isZero(s)) || ok && (len(m) == 0 || len(s.To) == 0) {
							t.Errorf("ModelStep(%v, %v, %v, %v, %v) = %v, %v, %v", c, x, g, order, deg, m, s, ok)
						}
					}
				}
			}
		}
	}
}

// validSegment reports whether a segment has valid boxes of n coordinates, and what it
// says of them.
func validSegment(s api.Segment, n int) bool {
	for _, b := range [][]api.Interval{s.From, s.Pre, s.Tube, s.To} {
		if len(b) != n || !box.Valid(b) || slices.Contains(b, entire) {
			return false
		}
	}
	return box.Subset(s.To, s.Tube) && box.Subset(s.Tube, s.Pre) && box.Subset(s.From, s.Pre)
}

// TestValidValues checks that boxes, models and segments are valid whatever valid
// arguments they come from: P3 of the document.
func TestValidValues(t *testing.T) {
	l := []api.Interval{entire, point(0), point(1), point(-1), point(largest), point(-largest), between(-largest, largest), between(-1, 1), between(0, largest), between(-one, 0), between(one, 4*one)}
	found := 0
	for _, a := range l {
		for _, b := range l {
			x, y := of(a, b), of(b, a)
			m := FromBox(x)
			if r := Ranges(m); len(m) != 2 || !taylor.Valid(m[0]) || !taylor.Valid(m[1]) || !box.Valid(r) {
				t.Errorf("FromBox(%v) = %v, with the ranges %v", x, m, r)
			}
			for _, g := range []api.TimeStep{at(0, 1), at(-largest, 1), at(0, largest), at(-largest, largest), at(one, one/16)} {
				for _, order := range []int{0, 1, 7} {
					if got := Remainder(every(), x, g, order); len(got) != 2 || !box.Valid(got) {
						t.Errorf("Remainder for %v, %v, %d is %v", x, g, order, got)
					}
					if got := EnclosureAt(every(), x, y, during(g, between(0, g.H), order)); len(got) != 2 || !box.Valid(got) {
						t.Errorf("EnclosureAt for %v, %v, %v, %d is %v", x, y, g, order, got)
					}
					if got, ok := IntervalStep(every(), x, g, order); ok && !validSegment(got, 2) || !ok && !isZero(got) {
						t.Errorf("IntervalStep for %v, %v, %d is %v, %v", x, g, order, got, ok)
					} else if ok {
						found++
					}
					n, got, ok := ModelStep(every(), m, g, api.Expansion{Order: order, Deg: 2})
					if ok && (!validSegment(got, 2) || len(n) != 2 || !taylor.Valid(n[0]) || !taylor.Valid(n[1])) || !ok && (!isZero(got) || len(n) > 0) {
						t.Errorf("ModelStep for %v, %v, %d is %v, %v, %v", x, g, order, n, got, ok)
					}
				}
			}
		}
	}
	if found < 5 {
		t.Errorf("%d steps are found: these tests miss something", found)
	}
}

// TestImports checks that the package imports no other layers than interval, box,
// taylor, series and picard.
func TestImports(t *testing.T) {
	files, err := filepath.Glob("*.go")
	if err != nil || len(files) == 0 {
		t.Fatal("no files", err)
	}
	allowed := []string{`"armillary/api"`, `"armillary/interval"`, `"armillary/box"`, `"armillary/taylor"`, `"armillary/series"`, `"armillary/picard"`}
	for _, name := range files {
		if strings.HasSuffix(name, "_test.go") {
			continue
		}
		file, err := parser.ParseFile(token.NewFileSet(), name, nil, parser.ImportsOnly)
		if err != nil {
			t.Fatal(err)
		}
		for _, spec := range file.Imports {
			if path := spec.Path.Value; strings.HasPrefix(path, `"armillary`) && !slices.Contains(allowed, path) {
				t.Errorf("%s imports %s", name, path)
			}
		}
	}
}
