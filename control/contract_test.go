package control

import (
	"go/parser"
	"go/token"
	"math"
	"path/filepath"
	"slices"
	"strings"
	"testing"

	"armillary/api"
	"armillary/box"
	"armillary/ode"
	"armillary/tape"
)

// Tests of P13.1: the functions return what M1 to M3 say.

const (
	one     = api.One
	largest = api.Max - 1
)

var entire = api.Interval{Lo: -api.Max, Hi: api.Max}

func between(lo, hi int64) api.Interval { return api.Interval{Lo: lo, Hi: hi} }

func point(x int64) api.Interval { return between(x, x) }

// whole returns the interval between two integers.
func whole(lo, hi int64) api.Interval { return between(lo*one, hi*one) }

// of returns a box.
func of(l ...api.Interval) []api.Interval { return l }

// usual returns the parameters that most tests start with.
func usual() api.StepControl {
	return api.StepControl{Order: 3, First: 32768, Least: 1024, Most: 65536, Wide: 20000}
}

// sized returns parameters with the given sizes, and no other limits.
func sized(least, first, most int64) api.StepControl {
	return api.StepControl{Order: 1, First: first, Least: least, Most: most, Wide: largest}
}

// limited returns the usual parameters with another least size and another width.
func limited(least, wide int64) api.StepControl {
	c := usual()
	c.Least, c.Wide = least, wide
	return c
}

// ask returns a step request.
func ask(c api.StepControl, start, last, h int64) api.StepRequest {
	return api.StepRequest{Ctrl: c, T: start, Last: last, H: h}
}

// compiled returns the tape of a system.
func compiled(t *testing.T, text string) api.Tape {
	t.Helper()
	s, offset, err := ode.Parse(text)
	if err != api.OK {
		t.Fatalf("%q is no system: error %v at %d", text, err, offset)
	}
	return tape.Compile(s)
}

func equalSegments(a, b api.Segment) bool {
	return a.T == b.T && a.H == b.H && slices.Equal(a.From, b.From) && slices.Equal(a.Pre, b.Pre) && slices.Equal(a.Tube, b.Tube) && slices.Equal(a.To, b.To)
}

// isZero reports whether a segment has no values.
func isZero(s api.Segment) bool { return equalSegments(s, api.Segment{}) }

func TestValid(t *testing.T) {
	const maxInt = math.MaxInt64
	const minInt = math.MinInt64
	for _, y := range []struct {
		order                    int
		least, first, most, wide int64
		want                     bool
	}{
		{3, 1024, 32768, 65536, 20000, true},
		{0, 0, 0, 0, 0, false},
		// Order is 1 to 7.
		{1, 1024, 32768, 65536, 20000, true}, {7, 1024, 32768, 65536, 20000, true},
		{0, 1024, 32768, 65536, 20000, false}, {8, 1024, 32768, 65536, 20000, false}, {-1, 1024, 32768, 65536, 20000, false}, {9, 1024, 32768, 65536, 20000, false}, {maxInt, 1024, 32768, 65536, 20000, false}, {minInt, 1024, 32768, 65536, 20000, false},
		// Least is 1 to First.
		{3, 1, 32768, 65536, 20000, true}, {3, 32767, 32768, 65536, 20000, true}, {3, 32768, 32768, 65536, 20000, true},
		{3, 0, 32768, 65536, 20000, false}, {3, -1, 32768, 65536, 20000, false}, {3, minInt, 32768, 65536, 20000, false}, {3, 32769, 32768, 65536, 20000, false}, {3, maxInt, 32768, 65536, 20000, false},
		// First is Least to Most.
		{3, 1024, 1024, 65536, 20000, true}, {3, 1024, 1025, 65536, 20000, true}, {3, 1024, 65535, 65536, 20000, true}, {3, 1024, 65536, 65536, 20000, true},
		{3, 1024, 1023, 65536, 20000, false}, {3, 1024, 65537, 65536, 20000, false}, {3, 1024, 0, 65536, 20000, false}, {3, 1024, -32768, 65536, 20000, false}, {3, 1024, maxInt, 65536, 20000, false}, {3, 1024, minInt, 65536, 20000, false},
		// Most is First to the greatest number.
		{3, 1024, 32768, 32768, 20000, true}, {3, 1024, 32768, largest, 20000, true}, {3, largest, largest, largest, 20000, true},
		{3, 1024, 32768, 32767, 20000, false}, {3, 1024, 32768, api.Max, 20000, false}, {3, 1024, 32768, maxInt, 20000, false}, {3, 1024, 32768, minInt, 20000, false}, {3, 1024, api.Max, api.Max, 20000, false}, {3, api.Max, api.Max, api.Max, 20000, false},
		// Wide is 1 to the greatest number.
		{3, 1024, 32768, 65536, 1, true}, {3, 1024, 32768, 65536, largest, true},
		{3, 1024, 32768, 65536, 0, false}, {3, 1024, 32768, 65536, -1, false}, {3, 1024, 32768, 65536, api.Max, false}, {3, 1024, 32768, 65536, maxInt, false}, {3, 1024, 32768, 65536, minInt, false},
		// All at their limits.
		{1, 1, 1, 1, 1, true}, {7, 1, 1, largest, largest, true}, {7, largest, largest, largest, largest, true}, {1, 1, largest, largest, 1, true},
		{0, 1, 1, 1, 1, false}, {1, 0, 1, 1, 1, false}, {1, 0, 0, 1, 1, false}, {1, 0, 0, 0, 1, false}, {1, 1, 0, 1, 1, false}, {1, 1, 1, 0, 1, false}, {1, 1, 1, 1, 0, false}, {1, 2, 1, 1, 1, false}, {1, 1, 2, 1, 1, false}, {1, 2, 2, 1, 1, false},
		{1, -3, -2, -1, 1, false}, {1, 3, 2, 1, 1, false},
	} {
		c := api.StepControl{Order: y.order, Least: y.least, First: y.first, Most: y.most, Wide: y.wide}
		if got := Valid(c); got != y.want {
			t.Errorf("Valid(%+v) = %v", c, got)
		}
	}
}

func TestAccept(t *testing.T) {
	narrow, wide, low := of(between(5, 20005)), of(between(0, 20001)), of(between(-largest, 20000-largest))
	six := slices.Repeat(narrow, 6)
	for _, y := range []struct {
		wide     int64
		to, tube []api.Interval
		want     bool
	}{
		// Equal to the limit, one unit above it and below it, in either box.
		{20000, narrow, narrow, true}, {20001, narrow, narrow, true}, {19999, narrow, narrow, false},
		{20000, wide, narrow, false}, {20000, narrow, wide, false}, {20000, wide, wide, false},
		{20001, wide, narrow, true}, {20001, narrow, wide, true}, {20001, wide, wide, true},
		{19999, of(point(0)), narrow, false}, {19999, narrow, of(point(0)), false},
		{20000, low, low, true}, {19999, low, of(point(0)), false}, {19999, of(point(0)), low, false},
		// The least and the greatest limit, and intervals of the greatest widths.
		{1, of(point(7)), of(point(-7)), true}, {1, of(between(7, 8)), of(between(-7, -6)), true}, {1, of(between(7, 9)), of(point(0)), false}, {1, of(point(0)), of(between(-1, 1)), false},
		{largest, of(between(0, largest)), of(between(-largest, 0)), true}, {largest, of(between(0, largest)), of(between(-largest, 1)), false}, {largest, of(between(-1, largest)), of(point(0)), false},
		{largest, of(between(-largest, largest)), of(point(0)), false}, {largest, of(entire), of(point(0)), false}, {largest, of(point(0)), of(entire), false}, {largest, of(entire), of(entire), false},
		// Any coordinate.
		{20000, six, six, true}, {19999, six, six, false},
		{20000, append(of(), wide[0], narrow[0]), six[:2], false}, {20000, append(of(), narrow[0], wide[0]), six[:2], false}, {20000, six[:2], append(of(), wide[0], narrow[0]), false}, {20000, six[:2], append(of(), narrow[0], wide[0]), false},
		{20000, of(narrow[0], narrow[0], narrow[0], narrow[0], narrow[0], wide[0]), six, false}, {20000, six, of(narrow[0], narrow[0], narrow[0], narrow[0], narrow[0], wide[0]), false}, {20000, six, of(wide[0], narrow[0], narrow[0], narrow[0], narrow[0], narrow[0]), false}, {20000, six, of(narrow[0], narrow[0], wide[0], narrow[0], narrow[0], narrow[0]), false},
		{20000, nil, nil, true},
	} {
		c, s := limited(1024, y.wide), api.Segment{T: 5, H: 99, From: narrow, Pre: narrow, Tube: y.tube, To: y.to}
		if got := Accept(c, s); got != y.want {
			t.Errorf("Accept with %d for %v = %v", y.wide, s, got)
		}
		// The other fields do not matter.
		if got := Accept(api.StepControl{Order: 7, Least: 100, First: 100, Most: 100, Wide: y.wide}, api.Segment{From: of(entire), Pre: of(between(-largest, largest)), Tube: y.tube, To: y.to}); got != y.want {
			t.Errorf("Accept with %d for %v and others = %v", y.wide, s, got)
		}
	}
}

func TestInitial(t *testing.T) {
	for _, y := range []struct{ first, left, want int64 }{
		{32768, 32767, 32767}, {32768, 32768, 32768}, {32768, 32769, 32768},
		{32768, 1, 1}, {32768, 7, 7}, {32768, 1023, 1023}, {32768, 1024, 1024}, {32768, 65536, 32768}, {32768, 99999, 32768}, {32768, largest, 32768},
		{1024, 1, 1}, {1024, 1023, 1023}, {1024, 1024, 1024}, {1024, 1025, 1024}, {65536, 65535, 65535}, {65536, 65536, 65536}, {65536, 65537, 65536}, {65536, largest, 65536},
	} {
		if got := Initial(sized(1024, y.first, 65536), y.left); got != y.want {
			t.Errorf("Initial with %d for %d = %d, want %d", y.first, y.left, got, y.want)
		}
	}
	for _, y := range []struct{ first, left, want int64 }{{1, 1, 1}, {1, 2, 1}, {1, largest, 1}, {largest, 1, 1}, {largest, largest - 1, largest - 1}, {largest, largest, largest}} {
		if got := Initial(sized(1, y.first, largest), y.left); got != y.want {
			t.Errorf("Initial with %d for %d = %d, want %d", y.first, y.left, got, y.want)
		}
	}
}

func TestShrink(t *testing.T) {
	for _, y := range []struct {
		least, h, want int64
	}{
		{1024, 4096, 2048}, {1024, 4097, 2048}, {1024, 4095, 2047}, {1024, 2050, 1025}, {1024, 2049, 1024}, {1024, 2048, 1024},
		{1024, 2047, 0}, {1024, 2046, 0}, {1024, 1025, 0}, {1024, 1024, 0}, {1024, 1023, 0}, {1024, 2, 0}, {1024, 1, 0},
		{1024, 32768, 16384}, {1024, 65536, 32768}, {1024, 65537, 32768}, {1024, largest, 1<<30 - 1}, {1024, largest - 1, 1<<30 - 1},
		// An odd least size.
		{1023, 2048, 1024}, {1023, 2047, 1023}, {1023, 2046, 1023}, {1023, 2045, 0}, {1023, 1023, 0},
		// The least and the greatest.
		{1, 1, 0}, {1, 2, 1}, {1, 3, 1}, {1, 4, 2}, {1, 5, 2}, {2, 1, 0}, {2, 2, 0}, {2, 3, 0}, {2, 4, 2}, {2, 5, 2}, {3, 5, 0}, {3, 6, 3}, {3, 7, 3}, {32768, 65536, 32768}, {32768, 65535, 0}, {32768, 32768, 0},
	} {
		want := api.OK
		if y.want == 0 {
			want = api.ErrStep
		}
		// First and Most do not matter.
		for _, c := range []api.StepControl{sized(y.least, 32768, 65536), sized(y.least, y.least, y.least), sized(y.least, y.least, largest), sized(y.least, largest, largest)} {
			if got, err := Shrink(c, y.h); got != y.want || err != want {
				t.Errorf("Shrink(%v, %d) = %d, %v, want %d", c, y.h, got, err, y.want)
			}
		}
	}
	if h, err := Shrink(sized(1<<30, largest, largest), largest); h != 0 || err != 130 {
		t.Errorf("Shrink for the greatest size = %d, %d", h, err)
	}
	if h, err := Shrink(sized(1<<30-1, largest, largest), largest); h != 1<<30-1 || err != 0 {
		t.Errorf("Shrink for the greatest size = %d, %d", h, err)
	}
}

func TestGrow(t *testing.T) {
	for _, y := range []struct{ most, h, want int64 }{
		{65536, 1, 2}, {65536, 2, 4}, {65536, 3, 6}, {65536, 1023, 2046}, {65536, 1024, 2048}, {65536, 1025, 2050},
		{65536, 32767, 65534}, {65536, 32768, 65536}, {65536, 32769, 65536}, {65536, 40000, 65536}, {65536, 65535, 65536}, {65536, 65536, 65536}, {65536, 65537, 65536}, {65536, 1<<30 - 1, 65536}, {65536, 1 << 30, 65536}, {65536, largest, 65536},
		// An odd greatest size, the least and the greatest.
		{65535, 32767, 65534}, {65535, 32768, 65535}, {1, 1, 1}, {1, 2, 1}, {1, largest, 1}, {2, 1, 2}, {2, 2, 2}, {3, 1, 2}, {3, 2, 3},
		{largest, 1, 2}, {largest, 1<<30 - 1, 1<<31 - 2}, {largest, 1 << 30, largest}, {largest, 1<<30 + 1, largest}, {largest, largest, largest},
	} {
		// Least and First do not matter.
		for _, c := range []api.StepControl{sized(1, 1, y.most), sized(1, y.most, y.most), sized(y.most, y.most, y.most)} {
			if got := Grow(c, y.h); got != y.want {
				t.Errorf("Grow(%v, %d) = %d, want %d", c, y.h, got, y.want)
			}
		}
	}
}

// TestExamples has the calls of the section "Examples".
func TestExamples(t *testing.T) {
	if h, err := Shrink(sized(1024, 32768, 65536), 4096); h != 2048 || err != api.OK {
		t.Errorf("half of 4096 is %d, %v", h, err)
	}
	if h, err := Shrink(sized(1024, 32768, 65536), 2047); h != 0 || err != api.ErrStep {
		t.Errorf("half of 2047 is %d, %v", h, err)
	}
	if h := Grow(sized(1024, 32768, 65536), 40000); h != 65536 {
		t.Errorf("twice 40000 is %d", h)
	}
	s, next, err := Advance(compiled(t, "x'=1"), of(point(0)), ask(usual(), 0, one, 32768))
	want := api.Segment{H: 16384, From: of(point(0)), Pre: of(between(0, 16384)), Tube: of(between(0, 16384)), To: of(point(16384))}
	if !equalSegments(s, want) || next != 32768 || err != api.OK {
		t.Errorf("the step is %v, %d, %v", s, next, err)
	}
}

// advance is a call of Advance with its result.
type advance struct {
	text string
	x    []api.Interval
	w    api.StepRequest
	// h is the length of the step, or 0 if there is none.
	h, next int64
	// pre, tube and to are the boxes of the segment, or nil.
	pre, tube, to []api.Interval
}

func checkAdvances(t *testing.T, l []advance) {
	t.Helper()
	for _, y := range l {
		want, code := api.Segment{T: y.w.T, H: y.h, From: y.x, Pre: y.pre, Tube: y.tube, To: y.to}, api.OK
		if y.h == 0 {
			want, code = api.Segment{}, api.ErrStep
		}
		got, next, err := Advance(compiled(t, y.text), y.x, y.w)
		if !equalSegments(got, want) || next != y.next || err != code {
			t.Errorf("Advance(%q, %v, %v) = %v, %d, %v, want %v, %d", y.text, y.x, y.w, got, next, err, want, y.next)
		}
	}
}

// line is a call of Advance for a system with a constant derivative, and its result.
func line(text string, x api.Interval, w api.StepRequest, h, next, lo, hi int64) advance {
	tube := of(between(min(x.Lo, lo), max(x.Hi, hi)))
	return advance{text, of(x), w, h, next, tube, tube, of(between(lo, hi))}
}

// none is a call of Advance that finds no step.
func none(text string, x []api.Interval, w api.StepRequest) advance {
	return advance{text: text, x: x, w: w}
}

// TestCandidates has systems whose steps all succeed, but are too wide above some length.
func TestCandidates(t *testing.T) {
	zero := point(0)
	checkAdvances(t, []advance{
		// The first candidate is accepted: it is H if this is below or equal to what is
		// left, and what is left otherwise. The next size is twice H in any case.
		line("x'=1", zero, ask(usual(), 0, 65536, 16384), 16384, 32768, 16384, 16384),
		line("x'=1", zero, ask(usual(), 0, 16385, 16384), 16384, 32768, 16384, 16384),
		line("x'=1", zero, ask(usual(), 0, 16384, 16384), 16384, 32768, 16384, 16384),
		line("x'=1", zero, ask(usual(), 0, 16383, 16384), 16383, 32768, 16383, 16383),
		line("x'=1", zero, ask(usual(), 0, 5000, 16384), 5000, 32768, 5000, 5000),
		line("x'=1", zero, ask(usual(), 0, 5000, 32768), 5000, 65536, 5000, 5000),
		line("x'=1", zero, ask(usual(), 0, 5000, 40000), 5000, 65536, 5000, 5000),
		line("x'=1", zero, ask(usual(), 0, 5000, 5001), 5000, 10002, 5000, 5000),
		line("x'=1", zero, ask(usual(), 0, 5000, 5000), 5000, 10000, 5000, 5000),
		line("x'=1", zero, ask(usual(), 0, 5000, 4999), 4999, 9998, 4999, 4999),
		line("x'=1", zero, ask(usual(), 0, 1, 32768), 1, 65536, 1, 1),
		line("x'=1", zero, ask(usual(), 0, 1, 1), 1, 2, 1, 1),
		line("x'=1", zero, ask(usual(), 0, 65536, 1), 1, 2, 1, 1),
		line("x'=1", zero, ask(usual(), 0, 65536, 20000), 20000, 40000, 20000, 20000),
		line("x'=1", zero, ask(usual(), 0, 20000, 65536), 20000, 65536, 20000, 20000),
		// It is tried whether or not it is as large as Least, and as small as Most.
		line("x'=1", zero, ask(usual(), 0, 65536, 1024), 1024, 2048, 1024, 1024),
		line("x'=1", zero, ask(usual(), 0, 65536, 1023), 1023, 2046, 1023, 1023),
		line("x'=1", zero, ask(usual(), 0, 1023, 1024), 1023, 2048, 1023, 1023),
		line("x'=1", zero, ask(limited(1024, one*4), 0, 4*one, 3*one), 3*one, one, 3*one, 3*one),
		line("x'=1", zero, ask(limited(1024, one*4), 0, one+1, 3*one), one+1, one, one+1, one+1),
		line("x'=1", zero, ask(limited(1024, one*4), 0, 4*one, one+1), one+1, one, one+1, one+1),
		// The second candidate is, and the next size is twice that.
		line("x'=1", zero, ask(usual(), 0, 65536, 20001), 10000, 20000, 10000, 10000),
		line("x'=1", zero, ask(usual(), 0, 20001, 65536), 10000, 20000, 10000, 10000),
		line("x'=1", zero, ask(usual(), 0, 65536, 20002), 10001, 20002, 10001, 10001),
		line("x'=1", zero, ask(usual(), 0, 65536, 40001), 20000, 40000, 20000, 20000),
		line("x'=1", zero, ask(usual(), 0, 40001, 65536), 20000, 40000, 20000, 20000),
		line("x'=1", zero, ask(usual(), 0, 40001, largest), 20000, 40000, 20000, 20000),
		line("x'=1", zero, ask(limited(1024, one), 0, 4*one, 2*one), one, one, one, one),
		line("x'=1", zero, ask(limited(1024, one), 0, 4*one, 2*one-2), one-1, one, one-1, one-1),
		line("x'=1", zero, ask(limited(1024, one/2+1), 0, 4*one, one+2), one/2+1, one, one/2+1, one/2+1),
		line("x'=1", zero, ask(limited(1024, one/2), 0, 4*one, one), one/2, one, one/2, one/2),
		line("x'=1", zero, ask(limited(1024, one/2-1), 0, 4*one, one-2), one/2-1, one-2, one/2-1, one/2-1),
		// A later one is.
		line("x'=1", zero, ask(usual(), 0, 65536, 40002), 10000, 20000, 10000, 10000),
		line("x'=1", zero, ask(usual(), 0, 65536, 65536), 16384, 32768, 16384, 16384),
		line("x'=1", zero, ask(usual(), 0, 65535, 65536), 16383, 32766, 16383, 16383),
		line("x'=1", zero, ask(limited(1024, 1024), 0, 65536, 32768), 1024, 2048, 1024, 1024),
		line("x'=1", zero, ask(limited(1024, 1024), 0, 65536, 32769), 1024, 2048, 1024, 1024),
		line("x'=1", zero, ask(limited(1024, 1025), 0, 65536, 32800), 1025, 2050, 1025, 1025),
		line("x'=1", zero, ask(limited(1023, 1023), 0, 65536, 32767), 1023, 2046, 1023, 1023),
		line("x'=1", zero, ask(limited(1, 1), 0, 65536, 65536), 1, 2, 1, 1),
		line("x'=1", zero, ask(limited(1, 1), 0, 65536, 3), 1, 2, 1, 1),
		line("x'=1", zero, ask(limited(1, 2), 0, 65536, 65535), 1, 2, 1, 1),
		line("x'=1", zero, ask(limited(1, 2), 0, 131071, 3*one), 1, 2, 1, 1),
		line("x'=1", zero, ask(limited(1, 1), 0, 1<<30, 1<<30), 1, 2, 1, 1),
		line("x'=1", point(-1<<29), ask(limited(1, 5), 0, 1<<30, 1<<30), 4, 8, 4-1<<29, 4-1<<29),
		// None is.
		none("x'=1", of(zero), ask(limited(1024, 1023), 0, 65536, 32768)),
		none("x'=1", of(zero), ask(limited(1024, 1023), 0, 65536, 1024)),
		none("x'=1", of(zero), ask(limited(1024, 1023), 0, 1024, 65536)),
		none("x'=1", of(zero), ask(limited(1024, 1024), 0, 65536, 32767)),
		none("x'=1", of(zero), ask(limited(1024, 1024), 0, 65536, 2047)),
		none("x'=1", of(zero), ask(limited(1024, 499), 0, 500, 32768)),
		none("x'=1", of(zero), ask(limited(1024, 499), 0, 65536, 500)),
		none("x'=1", of(zero), ask(limited(32768, 20000), 0, 65536, 65536)),
		none("x'=1", of(between(0, 2)), ask(limited(1, 2), 0, 65536, 65536)),
		// The width is that of the tube, and of what the step starts with.
		line("x'=-1", zero, ask(usual(), 0, 65536, 32768), 16384, 32768, -16384, -16384),
		line("x'=3", zero, ask(usual(), 0, 65536, 32768), 4096, 8192, 3*4096, 3*4096),
		line("x'=0", between(7, 20007), ask(usual(), 0, 65536, 65536), 65536, 65536, 7, 20007),
		line("x'=1", between(7, 12007), ask(usual(), 0, 65536, 32000), 8000, 16000, 8007, 20007),
		line("x'=1", between(7, 12008), ask(usual(), 0, 65536, 32000), 4000, 8000, 4007, 16008),
		line("x'=-2", between(7, 12007), ask(usual(), 0, 65536, 32000), 4000, 8000, -7993, 4007),
		none("x'=0", of(between(7, 20008)), ask(usual(), 0, 65536, 65536)),
		none("x'=1", of(between(7, 20007)), ask(usual(), 0, 65536, 65536)),
		// Uncertain derivatives.
		line("x'=[-1,2]", zero, ask(usual(), 0, 65536, 32768), 4096, 8192, -4096, 8192),
		line("x'=[1,2]", zero, ask(usual(), 0, 65536, 20000), 10000, 20000, 10000, 20000),
	})
}

// TestFailingSteps has systems whose steps fail above some length.
func TestFailingSteps(t *testing.T) {
	unit, two := of(whole(1, 1)), of(whole(2, 2))
	roomy := api.StepControl{Order: 4, First: one, Least: 1, Most: one, Wide: largest}
	narrow := roomy
	narrow.Wide = 20000
	checkAdvances(t, []advance{
		// There is no step of length 1, and one of length 1/2.
		{"x'=x", unit, ask(roomy, 0, one, one), one / 2, one, of(between(65536, 132883)), of(between(65536, 108067)), of(between(108048, 108067))},
		{"x'=x", unit, ask(roomy, -9*one, one, one), one / 2, one, of(between(65536, 132883)), of(between(65536, 108067)), of(between(108048, 108067))},
		{"x'=x", unit, ask(roomy, 0, one/2, one), one / 2, one, of(between(65536, 132883)), of(between(65536, 108067)), of(between(108048, 108067))},
		{"x'=x", unit, ask(roomy, 0, one, one/2), one / 2, one, of(between(65536, 132883)), of(between(65536, 108067)), of(between(108048, 108067))},
		// That is too wide.
		{"x'=x", unit, ask(narrow, 0, one, one), one / 4, one / 2, of(between(65536, 87445)), of(between(65536, 84151)), of(between(84149, 84151))},
		// Solutions that are out of range within half a unit, and sooner.
		{"x'=sqr(x)", two, ask(roomy, 0, one, one), one / 16, one / 8, of(between(131072, 154011)), of(between(131072, 149803)), of(between(149796, 149803))},
		{"x'=sqr(x)", of(whole(100, 100)), ask(roomy, 0, one, one), 128, 256, of(between(6553600, 9005510)), of(between(6553600, 9005510)), of(between(6553600, 9005510))},
		// None but the least is narrow.
		{"x'=sqr(x)", of(whole(100, 100)), ask(limited(1, 10033), 0, one, one), 1, 2, of(between(6553600, 6563633)), of(between(6553600, 6563633)), of(between(6553600, 6563633))},
		// None is of any length, or of that of Least.
		none("x'=sqr(x)", of(whole(100, 100)), ask(api.StepControl{Order: 4, First: one, Least: 129, Most: one, Wide: largest}, 0, one, one)),
		none("x'=sqr(x)", of(whole(100, 100)), ask(limited(1, 10032), 0, one, one)),
		none("x'=x", unit, ask(api.StepControl{Order: 4, First: one, Least: one/2 + 1, Most: one, Wide: largest}, 0, one, one)),
		none("x'=1/x", of(point(0)), ask(roomy, 0, one, one)),
		none("x'=1/x", of(whole(-1, 1)), ask(roomy, 0, one, one)),
		none("x'=sqrt(x)", of(whole(-1, -1)), ask(roomy, 0, one, one)),
		none("x'=all", of(point(0)), ask(roomy, 0, one, one)),
		none("x'=0", of(entire), ask(roomy, 0, one, one)),
		none("x'=0", of(point(largest)), ask(roomy, 0, one, one)),
		none("x'=0", of(point(-largest)), ask(roomy, 0, one, one)),
		none("x'=0\nv'=0", of(point(0), entire), ask(roomy, 0, one, one)),
	})
}

// TestOrders has steps of which only those of the order in the request have this end.
func TestOrders(t *testing.T) {
	for order, to := range []api.Interval{1: between(83968, 84653), 4: between(84149, 84151), 7: between(84149, 84150)} {
		if to == point(0) {
			continue
		}
		c := api.StepControl{Order: order, First: one, Least: 1, Most: one, Wide: 20000}
		if s, next, err := Advance(compiled(t, "x'=x"), of(whole(1, 1)), ask(c, 0, one, one)); !slices.Equal(s.To, of(to)) || s.H != one/4 || next != one/2 || err != api.OK {
			t.Errorf("the step of order %d is %v, %d, %v", order, s, next, err)
		}
	}
}

// TestStartTimes has systems that depend on the time, and steps at all times.
func TestStartTimes(t *testing.T) {
	zero, roomy := of(point(0)), sized(1, one, largest)
	checkAdvances(t, []advance{
		{"x'=t", zero, ask(roomy, 0, one, one), one, 2 * one, of(whole(0, 1)), of(between(0, one/2)), of(point(one / 2))},
		{"x'=t", zero, ask(roomy, 2*one, 5*one, one), one, 2 * one, of(whole(0, 3)), of(between(0, 5*one/2)), of(point(5 * one / 2))},
		{"x'=t", zero, ask(roomy, -2*one, 5*one, one), one, 2 * one, of(whole(-2, 0)), of(whole(-2, 0)), of(point(-3 * one / 2))},
		{"x'=t", zero, ask(roomy, -2*one, -one, 2*one), one, 4 * one, of(whole(-2, 0)), of(whole(-2, 0)), of(point(-3 * one / 2))},
		{"x'=t", zero, ask(roomy, -2*one, 0, 3*one), 2 * one, 6 * one, of(whole(-4, 0)), of(whole(-4, 0)), of(whole(-2, -2))},
		{"x'=t", zero, ask(roomy, largest-4, largest, 9), 4, 18, of(between(0, 131072)), of(between(0, 131072)), of(between(131071, 131072))},
		{"x'=t", zero, ask(roomy, -largest, 4-largest, 9), 4, 18, of(between(-131072, 0)), of(between(-131072, 0)), of(between(-131072, -131071))},
		line("x'=1", point(0), ask(roomy, -largest, largest-largest, one), one, 2*one, one, one),
		line("x'=1", point(0), ask(roomy, -largest, -1, 1), 1, 2, 1, 1),
		line("x'=1", point(0), ask(roomy, -largest, 1-largest, one), 1, 2*one, 1, 1),
		line("x'=1", point(0), ask(roomy, largest-1, largest, 1), 1, 2, 1, 1),
		line("x'=1", point(0), ask(roomy, largest-1, largest, largest), 1, largest, 1, 1),
		line("x'=1", point(0), ask(roomy, largest-one, largest, 2*one), one, 4*one, one, one),
		line("x'=0", point(9), ask(roomy, 0, largest, largest), largest, largest, 9, 9),
		line("x'=0", point(9), ask(roomy, -largest, 0, largest), largest, largest, 9, 9),
		line("x'=0", point(9), ask(roomy, -1, largest-1, largest), largest, largest, 9, 9),
		line("x'=0", point(9), ask(roomy, -1, largest-1, largest-1), largest-1, largest, 9, 9),
		line("x'=1", point(-1<<29), ask(roomy, -largest, 0, largest), largest, largest, 3<<29-1, 3<<29-1),
		line("x'=1", point(0), ask(roomy, -largest, 0, largest), 1<<30-1, 1<<31-2, 1<<30-1, 1<<30-1),
	})
}

// TestDimensions has a system in six variables, with the derivatives 1 to 6 in any order.
func TestDimensions(t *testing.T) {
	const text = "a'=5\nb'=-3\nc'=1\nd'=-6\ne'=2\nf'=4"
	slopes := []int64{5, -3, 1, -6, 2, 4}
	for _, y := range []struct {
		// wide is how wide a box of zeros is without d, and h the length of the step.
		wide, h int64
	}{{6 * 16384, 16384}, {6*16384 - 1, 8192}, {6 * 1024, 1024}, {6*1024 - 1, 0}} {
		x, c := slices.Repeat(of(point(0)), 6), limited(1024, y.wide)
		want := advance{text: text, x: x, w: ask(c, 0, 16384, one), h: y.h}
		if y.h > 0 {
			want.next = 2 * y.h
		}
		if y.h == 16384 {
			want.next = one
		}
		for _, slope := range slopes {
			to := slope * y.h
			want.to, want.tube = append(want.to, point(to)), append(want.tube, between(min(0, to), max(0, to)))
		}
		want.pre = want.tube
		checkAdvances(t, []advance{want})
	}
	// Each coordinate alone may be too wide.
	for i := range 6 {
		x := slices.Repeat(of(point(0)), 6)
		x[i] = between(-10000, 10000)
		for _, wide := range []int64{20000, 19999} {
			s, next, err := Advance(compiled(t, "a'=0\nb'=0\nc'=0\nd'=0\ne'=0\nf'=0"), x, ask(limited(1024, wide), 0, one, one))
			want := api.Segment{H: one, From: x, Pre: x, Tube: x, To: x}
			if wide == 20000 && (!equalSegments(s, want) || next != one || err != api.OK) || wide < 20000 && (!isZero(s) || next != 0 || err != api.ErrStep) {
				t.Errorf("from %v with %d: %v, %d, %v", x, wide, s, next, err)
			}
		}
	}
}

// do returns an instruction with the given indices in its fields A and B.
func do(op int, at ...int) api.Instruction {
	fields := append(slices.Clone(at), 0, 0)
	return api.Instruction{Op: op, A: fields[0], B: fields[1]}
}

// value returns the instruction of a constant.
func value(a api.Interval) api.Instruction { return api.Instruction{Op: api.Num, C: a} }

// tapeOf returns a tape whose dimension is the number of its outputs.
func tapeOf(out []int, l ...api.Instruction) api.Tape {
	return api.Tape{N: len(out), L: l, Out: out}
}

// every returns a tape with all operations.
func every() api.Tape {
	return tapeOf([]int{8, 9}, do(api.Var, 0), do(api.Var, 1), do(api.Time), value(whole(1, 2)), do(api.Div, 0, 1), do(api.Sqrt, 4), do(api.Sqr, 5), do(api.Neg, 6), do(api.Mul, 7, 3), do(api.Sub, 8, 2), do(api.Add, 9, 8))
}

// oddTapes returns tapes that are not valid, with one that is.
func oddTapes() []api.Tape {
	return []api.Tape{
		every(), {}, {N: 1}, {N: math.MaxInt}, {N: math.MinInt, Out: []int{0}}, {N: 1, Out: []int{0}}, {N: 1, Out: []int{-1}}, {N: 7, L: []api.Instruction{do(api.Time)}, Out: make([]int, 7)},
		tapeOf([]int{0, 1}, do(api.Add, 1, 1), do(api.Add, 0, 0)), tapeOf([]int{0}, do(api.Neg, 0)), tapeOf([]int{0}, do(api.Div, -1, math.MaxInt)), tapeOf([]int{1}, do(api.Time)), tapeOf([]int{0}, do(11)), tapeOf([]int{0}, do(api.Var, 1)), tapeOf([]int{0}, value(between(1, 0))),
	}
}

// oddNumbers returns numbers at the limits of what is specified, and beyond them.
func oddNumbers() []int64 {
	return []int64{0, 1, -1, one, largest, -largest, api.Max, -api.Max, math.MaxInt64, math.MinInt64, math.MaxInt64 / 2, math.MinInt64 / 2}
}

// TestNothingPanics calls all functions with all kinds of arguments, those for which
// nothing else is specified among them.
func TestNothingPanics(t *testing.T) {
	boxes := [][]api.Interval{nil, {entire}, {between(1, 0)}, {point(1), point(2)}, {whole(1, 2), whole(1, 2)}, {point(api.Max), between(5, 0)}, {between(math.MinInt64, math.MaxInt64), between(math.MaxInt64, math.MinInt64)}, make([]api.Interval, 7)}
	for _, h := range oddNumbers() {
		for _, limit := range oddNumbers() {
			c := sized(limit, limit, limit)
			Initial(c, h)
			Grow(c, h)
			if half, err := Shrink(c, h); err == api.OK && half < 1 || err != api.OK && half != 0 {
				t.Errorf("Shrink(%v, %d) = %d, %v", c, h, half, err)
			}
			c.Wide = limit
			Valid(c)
			for _, x := range boxes {
				Accept(c, api.Segment{To: x, Tube: boxes[1]})
				Accept(c, api.Segment{To: boxes[3], Tube: x})
			}
		}
	}
	// Candidates that are halved end at some time, also with these limits.
	for _, c := range []api.StepControl{{}, usual(), limited(math.MinInt64, math.MinInt64), limited(-1, largest), limited(0, -1), limited(math.MaxInt64, math.MaxInt64), {Order: -1, Least: -1, First: -1, Most: -1, Wide: one}, {Order: 8, Wide: one}, {Order: math.MaxInt, Wide: one}, {Order: math.MinInt, Wide: one}} {
		for _, p := range oddTapes() {
			for _, x := range boxes {
				for i, h := range oddNumbers() {
					for _, start := range oddNumbers() {
						last := oddNumbers()[(i*5+3)%12]
						if s, next, err := Advance(p, x, ask(c, start, last, h)); err == api.OK && !tape.Valid(p) || err != api.OK && (err != api.ErrStep || next != 0 || !isZero(s)) {
							t.Fatalf("Advance(%v, %v, %v) = %v, %d, %v", p, x, ask(c, start, last, h), s, next, err)
						}
					}
				}
			}
		}
	}
}

// validSegment reports whether a segment has valid boxes of n coordinates, and a valid
// time.
func validSegment(s api.Segment, n int) bool {
	for _, b := range [][]api.Interval{s.From, s.Pre, s.Tube, s.To} {
		if len(b) != n || !box.Valid(b) {
			return false
		}
	}
	return s.H >= 1 && s.H <= largest && s.T >= -largest && s.T <= largest && s.T+s.H <= largest
}

// TestValidValues checks that segments are valid whatever valid arguments they come
// from: P3 of the document.
func TestValidValues(t *testing.T) {
	l := []api.Interval{entire, point(0), point(1), point(-1), point(largest), point(-largest), between(-largest, largest), between(-1, 1), between(0, largest), between(-one, 0), between(one, 4*one)}
	requests := []api.StepRequest{ask(usual(), 0, 1, 1), ask(usual(), -largest, 0, largest), ask(sized(1, 1, 1), 0, largest, largest), ask(sized(1, 1, largest), -largest, 1-largest, one), ask(limited(1, largest), one, 9*one, one)}
	count := census{}
	for _, a := range l {
		for _, b := range l {
			for _, p := range []api.Tape{every(), compiled(t, "x'=v\nv'=-x*t"), compiled(t, "x'=sqr(v)\nv'=1")} {
				for _, w := range requests {
					s, next, err := Advance(p, of(a, b), w)
					switch {
					case err == api.OK && validSegment(s, 2) && next >= 1 && next <= w.Ctrl.Most:
						count["found"]++
					case err == api.ErrStep && isZero(s) && next == 0:
						count["none"]++
					default:
						t.Errorf("Advance(%v, %v, %v) = %v, %d, %v", p, of(a, b), w, s, next, err)
					}
				}
			}
		}
	}
	count.check(t, 100, "found", "none")
}

// TestImports checks that the package imports no other layers than interval, box and
// step.
func TestImports(t *testing.T) {
	files, err := filepath.Glob("*.go")
	if err != nil || len(files) == 0 {
		t.Fatal("no files", err)
	}
	allowed := []string{`"armillary/api"`, `"armillary/interval"`, `"armillary/box"`, `"armillary/step"`}
	for _, name := range files {
		if strings.HasSuffix(name, "_test.go") {
			continue
		}
		file, err := parser.ParseFile(token.NewFileSet(), name, nil, parser.ImportsOnly)
		if err != nil {
			t.Fatal(err)
		}
		for _, spec := range file.Imports {
			if path := spec.Path.Value; strings.HasPrefix(path, `"armillary`) && !slices.Contains(allowed, path) {
				t.Errorf("%s imports %s", name, path)
			}
		}
	}
}
