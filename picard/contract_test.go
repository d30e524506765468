package picard

import (
	"go/parser"
	"go/token"
	"math"
	"path/filepath"
	"slices"
	"strings"
	"testing"

	"armillary/api"
	"armillary/box"
	"armillary/ode"
	"armillary/tape"
)

// Tests of P11.1: the functions return what K1 to K3 say.

const (
	one     = api.One
	largest = api.Max - 1
)

var entire = api.Interval{Lo: -api.Max, Hi: api.Max}

func between(lo, hi int64) api.Interval { return api.Interval{Lo: lo, Hi: hi} }

func point(x int64) api.Interval { return between(x, x) }

// whole returns the interval between two integers.
func whole(lo, hi int64) api.Interval { return between(lo*one, hi*one) }

// of returns a box, and at a step.
func of(l ...api.Interval) []api.Interval { return l }

func at(start, h int64) api.TimeStep { return api.TimeStep{T: start, H: h} }

// compiled returns the tape of a system.
func compiled(t *testing.T, text string) api.Tape {
	t.Helper()
	s, offset, err := ode.Parse(text)
	if err != api.OK {
		t.Fatalf("%q is no system: error %v at %d", text, err, offset)
	}
	return tape.Compile(s)
}

// do returns an instruction with the given indices in its fields A and B.
func do(op int, at ...int) api.Instruction {
	fields := append(slices.Clone(at), 0, 0)
	return api.Instruction{Op: op, A: fields[0], B: fields[1]}
}

// value returns the instruction of a constant.
func value(a api.Interval) api.Instruction { return api.Instruction{Op: api.Num, C: a} }

// tapeOf returns a tape whose dimension is the number of its outputs.
func tapeOf(out []int, l ...api.Instruction) api.Tape {
	return api.Tape{N: len(out), L: l, Out: out}
}

// image is a call of Image with its result.
type image struct {
	text string
	x, b []api.Interval
	g    api.TimeStep
	want []api.Interval
}

func checkImages(t *testing.T, l []image) {
	t.Helper()
	for _, y := range l {
		if got := Image(compiled(t, y.text), y.x, y.b, y.g); !slices.Equal(got, y.want) {
			t.Errorf("Image(%q, %v, %v, %v) = %v, want %v", y.text, y.x, y.b, y.g, got, y.want)
		}
	}
}

func TestImage(t *testing.T) {
	zero, half := of(point(0)), int64(one/2)
	checkImages(t, []image{
		{"x'=0", of(whole(-1, 2)), zero, at(0, one), of(whole(-1, 2))},
		{"x'=3", of(whole(-1, 2)), zero, at(0, 2*one), of(whole(-1, 8))},
		{"x'=-3", of(whole(-1, 2)), zero, at(0, 2*one), of(whole(-7, 2))},
		{"x'=[-1,2]", of(whole(5, 5)), zero, at(0, 3*one), of(whole(2, 11))},
		{"x'=[1,2]", of(whole(5, 5)), zero, at(0, 3*one), of(whole(5, 11))},
		{"x'=[-2,-1]", of(whole(5, 5)), zero, at(0, 3*one), of(whole(-1, 5))},
		// The derivative is that in b, which need not have anything to do with x.
		{"x'=x", of(whole(1, 1)), of(whole(2, 3)), at(0, half), of(between(one, 5*half))},
		{"x'=x", of(whole(1, 1)), of(whole(-2, 3)), at(0, half), of(between(0, 5*half))},
		{"x'=x", of(whole(1, 1)), of(whole(-3, -2)), at(0, half), of(between(-half, one))},
		{"x'=x", of(whole(1, 4)), of(whole(1, 4)), at(0, half), of(whole(1, 6))},
		// Several coordinates: each of x for itself, and all of b.
		{"x'=v\nv'=-x", of(point(0), whole(1, 1)), of(whole(0, 1), whole(-1, 2)), at(0, one), of(whole(-1, 2), whole(0, 1))},
		{"x'=v\nv'=x", of(whole(5, 5), whole(7, 8)), of(whole(0, 1), whole(2, 3)), at(0, one), of(whole(5, 8), whole(7, 9))},
		{"x'=x*v\nv'=x*v", of(whole(1, 1), whole(2, 2)), of(whole(-1, 2), whole(3, 4)), at(0, one), of(whole(-3, 9), whole(-2, 10))},
		{"a'=b\nb'=c\nc'=d\nd'=e\ne'=f\nf'=a", of(whole(0, 0), whole(0, 1), whole(0, 2), whole(0, 3), whole(0, 4), whole(0, 5)), of(whole(1, 1), whole(2, 2), whole(3, 3), whole(-4, -4), whole(5, 5), whole(-6, 6)), at(0, one), of(whole(0, 2), whole(0, 4), whole(-4, 2), whole(0, 8), whole(-6, 10), whole(0, 6))},
	})
}

// TestProducts has constant derivatives whose products with the elapsed time are
// rounded outward.
func TestProducts(t *testing.T) {
	for _, y := range []struct {
		h       int64
		f, want api.Interval
	}{
		{1, point(0), point(0)}, {1, point(1), between(0, 1)}, {1, point(-1), between(-1, 0)}, {1, between(-1, 1), between(-1, 1)},
		{1, point(one), between(0, 1)}, {1, point(one + 1), between(0, 2)}, {1, point(-one), between(-1, 0)}, {1, point(-one - 1), between(-2, 0)},
		{1, point(largest), between(0, one/2)}, {1, between(-largest, largest), between(-one/2, one/2)}, {3, point(one / 2), between(0, 2)}, {3, between(-one/2, one), between(-2, 3)},
		{one - 1, point(1), between(0, 1)}, {one, point(7), between(0, 7)}, {one + 1, point(7), between(0, 8)}, {one + 1, between(-7, 7), between(-8, 8)},
		{largest, point(0), point(0)}, {largest, point(1), between(0, one/2)}, {largest, point(-1), between(-one/2, 0)}, {largest, point(one), between(0, largest)}, {largest, between(-one, 5), between(-largest, 163840)},
		{one, point(largest), between(0, largest)}, {one, between(-largest, 0), between(-largest, 0)}, {one + 1, point(largest), entire}, {largest, point(one + 1), entire}, {largest, point(-one - 1), entire}, {largest, between(-1, largest), entire},
	} {
		c := tapeOf([]int{0}, value(y.f))
		if got := Image(c, of(point(0)), of(point(0)), at(0, y.h)); !slices.Equal(got, of(y.want)) {
			t.Errorf("the image of the derivative %v for %d is %v, want %v", y.f, y.h, got, y.want)
		}
	}
}

func TestTimes(t *testing.T) {
	zero := of(point(0))
	for _, y := range []struct {
		text string
		g    api.TimeStep
		want api.Interval
	}{
		{"x'=t", at(0, one), whole(0, 1)}, {"x'=t", at(2*one, one), whole(0, 3)}, {"x'=t", at(5*one, one/2), between(0, 11*one/4)},
		{"x'=t", at(-2*one, one), whole(-2, 0)}, {"x'=t", at(-one, 2*one), whole(-2, 2)}, {"x'=t", at(-3*one, one), whole(-3, 0)}, {"x'=-t", at(-3*one, one), whole(0, 3)},
		{"x'=t", at(-1, 1), between(-1, 0)}, {"x'=t", at(0, 1), between(0, 1)}, {"x'=sqr(t)", at(-2*one, 3*one), whole(0, 12)}, {"x'=1/t", at(-2*one, one), whole(-1, 0)},
		// Times at the ends of the range of numbers.
		{"x'=t", at(-largest, 1), between(-32768, 0)}, {"x'=t", at(largest-1, 1), between(0, 32768)}, {"x'=t", at(-largest, one), between(-largest, 0)}, {"x'=t", at(largest-one, one), between(0, largest)}, {"x'=t", at(-largest, largest), entire}, {"x'=t", at(0, largest), entire},
		{"x'=1", at(-largest, 1), between(0, 1)}, {"x'=1", at(largest-1, 1), between(0, 1)}, {"x'=1", at(-largest, largest), between(0, largest)}, {"x'=1", at(0, largest), between(0, largest)}, {"x'=1", at(-1, largest), between(0, largest)},
		// There is no number for the elapsed time.
		{"x'=1", at(-1, largest+1), entire}, {"x'=0", at(-1, largest+1), entire}, {"x'=0", at(-1, largest), point(0)}, {"x'=0", at(-largest, 2*largest), entire}, {"x'=0", at(-largest, largest+1), entire}, {"x'=t", at(-largest, 2*largest), entire},
	} {
		checkImages(t, []image{{y.text, zero, zero, y.g, of(y.want)}})
	}
}

// TestUnboundedImages is about images with components that are entire by the
// derivative, by its product with the elapsed time, or by the sum.
func TestUnboundedImages(t *testing.T) {
	zero, unit, two := of(point(0)), of(whole(0, 1)), whole(2, 2)
	checkImages(t, []image{
		{"x'=all", zero, zero, at(0, 1), of(entire)},
		{"x'=x", zero, of(entire), at(0, 1), of(entire)},
		{"x'=1/x", zero, of(whole(-1, 1)), at(0, 1), of(entire)},
		{"x'=1/x", zero, of(whole(0, 1)), at(0, 1), of(entire)},
		{"x'=1/x", of(whole(-1, 1)), of(whole(1, 2)), at(0, one), of(whole(-1, 2))},
		{"x'=sqrt(x)", zero, of(between(-1, one)), at(0, 1), of(entire)},
		{"x'=sqrt(x)", zero, of(whole(0, 4)), at(0, one), of(whole(0, 2))},
		{"x'=sqr(x)", zero, of(whole(200, 200)), at(0, 1), of(entire)},
		{"x'=sqr(x)", zero, of(whole(100, 100)), at(0, one), of(whole(0, 10000))},
		{"x'=1/t", zero, zero, at(-one, 2*one), of(entire)},
		{"x'=1/t", zero, zero, at(0, one), of(entire)},
		{"x'=1/t", zero, zero, at(one, one), of(whole(0, 1))},
		{"x'=sqrt(t)", zero, zero, at(-1, 1), of(entire)},
		{"x'=sqrt(t)", zero, zero, at(0, one), unit},
		// The sum of the start and a product is bounded, but the product is not.
		{"x'=20000", of(whole(-30000, -30000)), zero, at(0, 2*one), of(entire)},
		{"x'=-20000", of(whole(30000, 30000)), zero, at(0, 2*one), of(entire)},
		{"x'=[0,20000]", of(whole(-30000, -30000)), zero, at(0, 2*one), of(entire)},
		{"x'=16000", of(whole(-30000, -30000)), zero, at(0, 2*one), of(whole(-30000, 2000))},
		// The product is bounded, but the sum is not.
		{"x'=1", of(point(largest)), zero, at(0, 1), of(entire)},
		{"x'=1", of(point(largest - 1)), zero, at(0, 1), of(between(largest-1, largest))},
		{"x'=-1", of(point(-largest)), zero, at(0, 1), of(entire)},
		{"x'=-1", of(point(1 - largest)), zero, at(0, 1), of(between(-largest, 1-largest))},
		{"x'=-1", of(point(largest)), zero, at(0, 1), of(between(largest-1, largest))},
		{"x'=[-1,1]", of(between(1-largest, largest)), zero, at(0, 1), of(entire)},
		{"x'=[-1,1]", of(between(1-largest, largest-1)), zero, at(0, 1), of(between(-largest, largest))},
		// The start is unbounded, or b, which matters only where it is used.
		{"x'=0", of(entire), zero, at(0, 1), of(entire)},
		{"x'=1", zero, of(entire), at(0, one), unit},
		{"x'=v\nv'=w\nw'=2", of(point(0), whole(1, 1), entire), of(entire, entire, whole(2, 2)), at(0, one), of(entire, whole(1, 3), entire)},
		// Only the components concerned are entire.
		{"x'=1/x\nv'=v\nw'=20000*v", of(point(0), two, whole(5, 5)), of(whole(-1, 1), two, two), at(0, one), of(entire, whole(2, 4), entire)},
		{"x'=x\nv'=1", of(whole(1, 1), point(largest)), of(two, two), at(0, one), of(whole(1, 3), entire)},
	})
}

func TestValidates(t *testing.T) {
	unit, many := of(whole(0, 1)), of(whole(7, 9))
	for _, y := range []struct {
		text string
		x, b []api.Interval
		g    api.TimeStep
		want bool
	}{
		{"x'=1", of(point(0)), unit, at(0, one), true},
		{"x'=1", of(point(0)), of(between(0, one-1)), at(0, one), false},
		{"x'=1", of(point(0)), of(between(1, one)), at(0, one), false},
		{"x'=1", of(point(0)), of(between(-1, one+1)), at(0, one), true},
		{"x'=1", of(point(0)), unit, at(0, one+1), false},
		{"x'=1", of(point(1)), unit, at(0, one), false},
		{"x'=1", of(point(0)), many, at(0, one), false},
		{"x'=-1", of(point(0)), of(whole(-1, 0)), at(0, one), true},
		{"x'=-1", of(point(0)), of(between(1-one, 0)), at(0, one), false},
		{"x'=-1", of(point(0)), of(between(-one, -1)), at(0, one), false},
		{"x'=x", of(whole(1, 1)), of(whole(1, 2)), at(0, one/2), true},
		{"x'=x", of(whole(1, 1)), of(between(one, 2*one-1)), at(0, one/2), false},
		{"x'=x", of(whole(1, 1)), of(whole(1, 2)), at(0, one/2+1), false},
		{"x'=x", of(whole(1, 1)), of(whole(0, 3)), at(0, one/2), true},
		{"x'=x", of(whole(1, 1)), of(whole(1, 1)), at(0, 1), false},
		{"x'=0", of(whole(1, 1)), of(whole(1, 1)), at(0, 1), true},
		{"x'=t", of(point(0)), of(whole(0, 3)), at(2*one, one), true},
		{"x'=t", of(point(0)), of(whole(0, 3)), at(2*one+1, one), false},
		// The last coordinate leaves by a unit, and the first.
		{"x'=1\nv'=2\nw'=3", of(point(0), point(0), point(0)), of(whole(0, 1), whole(0, 2), whole(0, 3)), at(0, one), true},
		{"x'=1\nv'=2\nw'=3", of(point(0), point(0), point(0)), of(whole(0, 1), whole(0, 2), between(0, 3*one-1)), at(0, one), false},
		{"x'=1\nv'=2\nw'=3", of(point(0), point(0), point(0)), of(between(1, one), whole(0, 2), whole(0, 3)), at(0, one), false},
		// What is not bounded does not validate, even if b is entire.
		{"x'=1", of(point(0)), of(entire), at(0, one), true},
		{"x'=x", of(point(0)), of(entire), at(0, 1), false},
		{"x'=all", of(point(0)), of(entire), at(0, 1), false},
		{"x'=1", of(entire), of(entire), at(0, 1), false},
		{"x'=0", of(point(0)), of(entire), at(-1, largest+1), false},
		{"x'=1", of(point(largest)), of(entire), at(0, 1), false},
		{"x'=1/x", of(whole(-1, 1)), of(whole(-1, 1)), at(0, 1), false},
		{"x'=20000", of(whole(-30000, -30000)), of(whole(-32000, 32000)), at(0, 2*one), false},
		{"x'=1\nv'=x", of(point(0), point(0)), of(entire, entire), at(0, one), false},
		{"x'=1\nv'=1", of(point(0), point(0)), of(entire, whole(0, 1)), at(0, one), true},
		{"x'=1\nv'=1/v", of(point(0), point(0)), of(whole(0, 1), entire), at(0, one), false},
		{"a'=b\nb'=c\nc'=d\nd'=e\ne'=f\nf'=1", slices.Repeat(of(point(0)), 6), slices.Repeat(unit, 6), at(0, one), true},
		{"a'=b\nb'=c\nc'=d\nd'=e\ne'=f\nf'=1", slices.Repeat(of(point(0)), 6), slices.Repeat(unit, 6), at(0, one+1), false},
	} {
		if got := Validates(compiled(t, y.text), y.x, y.b, y.g); got != y.want {
			t.Errorf("Validates(%q, %v, %v, %v) = %v", y.text, y.x, y.b, y.g, got)
		}
	}
}

// search is a call of Enclose with the box that it finds, or nil.
type search struct {
	text string
	x    []api.Interval
	g    api.TimeStep
	want []api.Interval
}

func checkSearch(t *testing.T, y search) {
	t.Helper()
	got, ok := Enclose(compiled(t, y.text), y.x, y.g)
	if !slices.Equal(got, y.want) || ok != (y.want != nil) {
		t.Errorf("Enclose(%q, %v, %v) = %v, %v, want %v", y.text, y.x, y.g, got, ok, y.want)
	}
}

// TestSearches has searches that succeed or fail in each of the attempts: the reference
// tells in which.
func TestSearches(t *testing.T) {
	unit := of(whole(1, 1))
	for _, y := range []struct {
		search
		end outcome
	}{
		{search{"x'=x", unit, at(0, 1), of(between(one, one+2))}, outcome{"found", 1}},
		{search{"x'=x", unit, at(0, 3872), of(between(one, 69668))}, outcome{"found", 2}},
		{search{"x'=x", unit, at(0, 17824), of(between(one, 90480))}, outcome{"found", 3}},
		{search{"x'=x", unit, at(0, 29920), of(between(one, 122398))}, outcome{"found", 4}},
		{search{"x'=x", unit, at(0, 38544), of(between(one, 163217))}, outcome{"found", 5}},
		{search{"x'=x", unit, at(0, 44640), of(between(one, 212877))}, outcome{"found", 6}},
		{search{"x'=x", unit, at(0, 49040), of(between(63714, 271917))}, outcome{"found", 7}},
		{search{"x'=x", unit, at(0, 52288), of(between(37692, 341028))}, outcome{"found", 8}},
		{search{"x'=x", unit, at(0, 54752), nil}, outcome{"given up", 8}},
		{search{"x'=sqr(x)", unit, at(0, 16288), of(between(one, 125743))}, outcome{"found", 8}},
		{search{"x'=sqr(x)", unit, at(0, 16384), nil}, outcome{"given up", 8}},
		{search{"x'=sqr(x)", unit, at(0, 23712), nil}, outcome{"D", 8}},
		{search{"x'=sqr(x)", unit, at(0, 52912), nil}, outcome{"D", 4}},
		{search{"x'=sqr(x)", unit, at(0, 90912), nil}, outcome{"inflated", 4}},
		{search{"x'=x+t", unit, at(0, 180576), nil}, outcome{"inflated", 8}},
		{search{"x'=x+t", unit, at(0, 52288), of(between(-26236, 560825))}, outcome{"found", 8}},
		{search{"x'=v\nv'=-x", of(point(0), whole(1, 1)), at(0, 1), of(between(0, 2), between(65535, 65537))}, outcome{"found", 1}},
		{search{"x'=v\nv'=-x", of(point(0), whole(1, 1)), at(0, 257), of(between(0, 258), between(65534, 65537))}, outcome{"found", 2}},
		{search{"x'=v\nv'=-x", of(point(0), whole(1, 1)), at(0, 12657), of(between(0, 12758), between(62572, 66055))}, outcome{"found", 3}},
		{search{"x'=v\nv'=-x", of(point(0), whole(1, 1)), at(0, 59377), of(between(-8916, 78929), between(-9839, 87114))}, outcome{"found", 5}},
		{search{"x'=1/x", unit, at(0, 61680), nil}, outcome{"given up", 8}},
		// The box itself, C, or the first inflated box or its image is not bounded.
		{search{"x'=0", of(entire), at(0, 1), nil}, outcome{"C", 0}},
		{search{"x'=1/x", of(whole(-1, 1)), at(0, 1), nil}, outcome{"C", 0}},
		{search{"x'=20000", of(whole(-30000, -30000)), at(0, 2*one), nil}, outcome{"C", 0}},
		{search{"x'=1", of(point(largest)), at(0, 1), nil}, outcome{"C", 0}},
		{search{"x'=0", of(point(0)), at(-1, largest+1), nil}, outcome{"C", 0}},
		{search{"x'=1\nv'=1/v", of(point(0), point(0)), at(0, 1), nil}, outcome{"C", 0}},
		{search{"x'=0", of(point(largest)), at(0, 1), nil}, outcome{"inflated", 1}},
		{search{"x'=0", of(point(-largest)), at(0, 1), nil}, outcome{"inflated", 1}},
		{search{"x'=1", of(point(0)), at(0, largest), nil}, outcome{"inflated", 1}},
		{search{"x'=1\nv'=0", of(point(0), point(largest)), at(0, 1), nil}, outcome{"inflated", 1}},
		{search{"x'=1/x", of(point(1)), at(0, 1), nil}, outcome{"C", 0}},
		{search{"x'=1/x", of(point(3)), at(0, 1), nil}, outcome{"D", 1}},
		{search{"x'=sqrt(x)", of(point(0)), at(0, 1), nil}, outcome{"D", 1}},
		{search{"x'=1\nv'=1/v", of(point(0), point(3)), at(0, 1), nil}, outcome{"D", 1}},
		{search{"x'=sqr(x)", of(whole(181, 181)), at(0, 1), nil}, outcome{"D", 1}},
	} {
		checkSearch(t, y.search)
		if _, end := wantEnclose(compiled(t, y.text), y.x, y.g); end != y.end {
			t.Errorf("the search for %q and %v ends with %v, want %v", y.text, y.g, end, y.end)
		}
	}
}

// TestInflation is about the widths that decide by how much a box is inflated.
func TestInflation(t *testing.T) {
	for _, y := range []struct{ width, w int64 }{{0, 1}, {1, 1}, {14, 1}, {15, 1}, {16, 2}, {17, 2}, {31, 2}, {32, 3}, {1599, 100}, {1600, 101}} {
		// The range of v is inflated, and shows in that of x, which is inflated by more.
		checkSearch(t, search{"x'=v\nv'=0", of(between(0, 1<<20), between(0, y.width)), at(0, one), of(between(-y.w, 1<<20+y.width+y.w), between(0, y.width))})
		checkSearch(t, search{"x'=v\nv'=0", of(between(0, 1<<20), between(-y.width, 0)), at(0, one), of(between(-y.width-y.w, 1<<20+y.w), between(-y.width, 0))})
		// What is inflated has room for it, or not.
		for _, room := range []int64{y.w - 1, y.w} {
			high := of(between(largest-room-y.width, largest-room))
			low := of(between(room-largest, room-largest+y.width))
			for _, x := range [][]api.Interval{high, low} {
				want := search{"x'=0", x, at(0, one), nil}
				if room == y.w {
					want.want = x
				}
				checkSearch(t, want)
			}
		}
	}
	// The width is that of the hull of the start and its image, not that of the start.
	checkSearch(t, search{"x'=1\nv'=x", of(point(0), whole(0, 99)), at(0, one), of(whole(0, 1), between(-4097, 100*one+4097))})
}

func TestSteps(t *testing.T) {
	zero := of(point(0))
	for _, y := range []search{
		{"x'=0", of(between(3, 7)), at(0, 1), of(between(3, 7))},
		{"x'=0", of(between(3, 7)), at(0, largest), of(between(3, 7))},
		{"x'=0", of(between(3, 7)), at(-largest, largest), of(between(3, 7))},
		{"x'=0", of(between(3, 7)), at(-1, largest+1), nil},
		{"x'=0", of(between(3, 7)), at(-largest, 2*largest), nil},
		{"x'=1", of(point(-1 << 29)), at(0, 1<<30), of(between(-1<<29, 1<<29))},
		{"x'=-1", of(whole(5, 6)), at(-one, 4*one), of(whole(1, 6))},
		{"x'=[-1,1]", of(whole(5, 6)), at(-one, 4*one), of(whole(1, 10))},
		{"x'=t", zero, at(0, one), of(whole(0, 1))},
		{"x'=t", zero, at(-2*one, one), of(whole(-2, 0))},
		{"x'=t", zero, at(-one, 2*one), of(whole(-2, 2))},
		{"x'=t", zero, at(-largest, 1), of(between(-32768, 0))},
		{"x'=t", zero, at(largest-1, 1), of(between(0, 32768))},
		{"x'=t", zero, at(-largest, one), nil},
		{"x'=t", zero, at(-one*30000, one), of(whole(-30000, 0))},
		{"x'=t", zero, at(-one*32000, one), nil},
		{"x'=t*x", of(whole(1, 1)), at(-one/16, one/16), of(between(65279, one))},
		{"a'=1\nb'=2\nc'=3\nd'=-4\ne'=-5\nf'=[-6,6]", slices.Repeat(zero, 6), at(0, one), of(whole(0, 1), whole(0, 2), whole(0, 3), whole(-4, 0), whole(-5, 0), whole(-6, 6))},
	} {
		checkSearch(t, y)
	}
}

// TestExamples is about the examples of the chapter.
func TestExamples(t *testing.T) {
	checkSearch(t, search{"x' = 1", of(point(0)), at(0, 65536), of(between(0, 65536))})
	checkSearch(t, search{"x' = x", of(point(65536)), at(0, 4096), of(between(65536, 69924))})
}

// doublings returns a chain of instructions each of which adds the one before to itself.
func doublings(length int) []api.Instruction {
	l := []api.Instruction{do(api.Time)}
	for i := range length - 1 {
		l = append(l, do(api.Add, i, i))
	}
	return l
}

// oddTapes returns tapes that are not valid.
func oddTapes() []api.Tape {
	return []api.Tape{
		{}, {N: 1}, {N: math.MaxInt}, {N: math.MinInt, Out: []int{0}}, {N: 1, Out: []int{0}}, {N: 1, Out: []int{-1}}, {N: 1, L: doublings(1)}, {N: 3, L: doublings(1), Out: []int{0}}, {N: 7, L: doublings(1), Out: make([]int, 7)}, {L: doublings(1), Out: []int{0}},
		tapeOf([]int{0, 1}, do(api.Add, 1, 1), do(api.Add, 0, 0)), tapeOf([]int{0}, do(api.Neg, 0)), tapeOf([]int{0}, do(api.Div, -1, math.MaxInt)), tapeOf([]int{1}, do(api.Time)), tapeOf([]int{math.MinInt}, do(api.Time)),
		tapeOf([]int{0}, api.Instruction{}), tapeOf([]int{0}, do(11)), tapeOf([]int{0}, do(api.Var, 1)), tapeOf([]int{0}, value(between(1, 0))), tapeOf([]int{400}, doublings(401)...), tapeOf([]int{999}, doublings(999)...),
	}
}

// every returns a tape with all operations.
func every() api.Tape {
	return tapeOf([]int{8, 9}, do(api.Var, 0), do(api.Var, 1), do(api.Time), value(whole(1, 2)), do(api.Div, 0, 1), do(api.Sqrt, 4), do(api.Sqr, 5), do(api.Neg, 6), do(api.Mul, 7, 3), do(api.Sub, 8, 2), do(api.Add, 9, 8))
}

// TestNothingPanics calls all functions with all kinds of arguments, those for
// which nothing else is specified among them.
func TestNothingPanics(t *testing.T) {
	boxes := [][]api.Interval{nil, {entire}, {between(1, 0)}, {point(1), point(2)}, {whole(1, 2), between(1, 0)}, {point(api.Max), between(5, 0)}, {between(math.MinInt64, math.MaxInt64), between(math.MaxInt64, math.MinInt64)}, make([]api.Interval, 7)}
	steps := []api.TimeStep{{}, {H: 1}, {H: -1}, {T: largest, H: 1}, {T: math.MaxInt64, H: 1}, {T: math.MinInt64, H: math.MaxInt64}, {T: math.MaxInt64, H: math.MaxInt64}, {T: math.MinInt64, H: math.MinInt64}}
	for _, c := range append(oddTapes(), every(), tapeOf([]int{399}, doublings(400)...)) {
		for _, x := range boxes {
			for _, g := range steps {
				for _, b := range boxes {
					Image(c, x, b, g)
					if Validates(c, x, b, g) && !tape.Valid(c) {
						t.Errorf("Validates(%v, %v, %v, %v) = true", c, x, b, g)
					}
				}
				if d, ok := Enclose(c, x, g); ok && !tape.Valid(c) || !ok && len(d) > 0 {
					t.Errorf("Enclose(%v, %v, %v) = %v, %v", c, x, g, d, ok)
				}
			}
		}
	}
}

// TestValidValues checks that boxes are valid whatever valid arguments they come
// from: P3 of the document.
func TestValidValues(t *testing.T) {
	l := []api.Interval{entire, point(0), point(1), point(-1), point(largest), point(-largest), between(-largest, largest), between(-1, 1), between(0, largest), between(-one, 0), between(one, 4*one)}
	for _, a := range l {
		for _, b := range l {
			for _, g := range []api.TimeStep{at(0, 1), at(-largest, 1), at(0, largest), at(-largest, 2*largest)} {
				x, y := of(a, b), of(b, a)
				if got := Image(every(), x, y, g); len(got) != 2 || !box.Valid(got) {
					t.Errorf("Image for %v, %v, %v is %v", x, y, g, got)
				}
				if got, ok := Enclose(every(), x, g); ok && (len(got) != 2 || !box.Valid(got)) || !ok && len(got) > 0 {
					t.Errorf("Enclose for %v, %v is %v, %v", x, g, got, ok)
				}
			}
		}
	}
}

// TestResultsDependOnArgumentsOnly calls the functions again after other calls: P2 of the document.
func TestResultsDependOnArgumentsOnly(t *testing.T) {
	c, x, b, g := compiled(t, "x'=v+t\nv'=-x*sqr(t)"), of(whole(1, 2), point(5)), of(whole(0, 5), whole(-2, 9)), at(-one, one/4)
	call := func() ([]api.Interval, bool, []api.Interval, bool) {
		d, ok := Enclose(c, x, g)
		return Image(c, x, b, g), Validates(c, x, b, g), d, ok
	}
	m, valid, d, ok := call()
	Enclose(compiled(t, "x'=x"), of(whole(1, 1)), at(0, 2*one))
	Validates(every(), x, of(entire, entire), g)
	Image(tapeOf([]int{0}, value(entire)), of(entire), of(entire), at(-largest, 2*largest))
	m2, valid2, d2, ok2 := call()
	if !slices.Equal(m, m2) || valid != valid2 || !slices.Equal(d, d2) || ok != ok2 || !valid || !ok {
		t.Errorf("first %v, %v, %v, %v, then %v, %v, %v, %v", m, valid, d, ok, m2, valid2, d2, ok2)
	}
}

// overwrite changes all elements of a box, and the room behind them.
func overwrite(b []api.Interval) {
	b = b[:cap(b)]
	for i := range b {
		b[i] = point(99)
	}
}

// roomy returns a box with room behind it.
func roomy(b []api.Interval) []api.Interval {
	return append(slices.Clip(slices.Clone(b)), point(77), point(78), point(79))[:len(b)]
}

// TestArgumentsStay overwrites the results, with all the room behind them: neither the
// arguments nor the room behind them may change, by this or by the calls.
func TestArgumentsStay(t *testing.T) {
	for _, y := range []search{
		{"x'=0", of(between(3, 7)), at(0, one), nil},
		{"x'=1", of(point(0)), at(-one, one), nil},
		{"x'=x", of(whole(1, 1)), at(0, 52288), nil},
		{"x'=x", of(whole(1, 1)), at(0, 2*one), nil},
		{"x'=sqr(x)", of(whole(1, 1)), at(0, 90912), nil},
		{"x'=1/x", of(whole(-1, 1)), at(0, 1), nil},
		{"x'=v\nv'=-x", of(point(0), whole(1, 1)), at(0, one/4), nil},
	} {
		c, x, b := compiled(t, y.text), roomy(y.x), roomy(slices.Repeat(of(whole(-2, 3)), len(y.x)))
		x0, b0 := slices.Clone(x[:cap(x)]), slices.Clone(b[:cap(b)])
		l, out := slices.Clone(c.L), slices.Clone(c.Out)
		overwrite(Image(c, x, b, y.g))
		overwrite(Image(c, x, x, y.g))
		Validates(c, x, b, y.g)
		Validates(c, x, x, y.g)
		d, _ := Enclose(c, x, y.g)
		overwrite(d)
		if !slices.Equal(x[:cap(x)], x0) || !slices.Equal(b[:cap(b)], b0) || !slices.Equal(c.L, l) || !slices.Equal(c.Out, out) || c.N != len(x) {
			t.Errorf("the arguments for %q are %v, %v, %v", y.text, c, x, b)
		}
	}
}

// TestImports checks that the package imports no other layers than interval, box and tape.
func TestImports(t *testing.T) {
	files, err := filepath.Glob("*.go")
	if err != nil || len(files) == 0 {
		t.Fatal("no files", err)
	}
	allowed := []string{`"armillary/api"`, `"armillary/interval"`, `"armillary/box"`, `"armillary/tape"`}
	for _, name := range files {
		if strings.HasSuffix(name, "_test.go") {
			continue
		}
		file, err := parser.ParseFile(token.NewFileSet(), name, nil, parser.ImportsOnly)
		if err != nil {
			t.Fatal(err)
		}
		for _, spec := range file.Imports {
			if path := spec.Path.Value; strings.HasPrefix(path, `"armillary`) && !slices.Contains(allowed, path) {
				t.Errorf("%s imports %s", name, path)
			}
		}
	}
}
