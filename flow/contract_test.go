package flow

import (
	"go/parser"
	"go/token"
	"math"
	"path/filepath"
	"slices"
	"strings"
	"testing"

	"armillary/api"
	"armillary/box"
	"armillary/ode"
	"armillary/tape"
)

// Tests of P14.1: the functions return what N1 to N3 say.

const (
	one     = api.One
	largest = api.Max - 1
)

var entire = api.Interval{Lo: -api.Max, Hi: api.Max}

func between(lo, hi int64) api.Interval { return api.Interval{Lo: lo, Hi: hi} }

func point(x int64) api.Interval { return between(x, x) }

// whole returns the interval between two integers.
func whole(lo, hi int64) api.Interval { return between(lo*one, hi*one) }

// of returns a box.
func of(l ...api.Interval) []api.Interval { return l }

// sized returns parameters with the given sizes, and no other limits.
func sized(least, first, most int64) api.StepControl {
	return api.StepControl{Order: 2, First: first, Least: least, Most: most, Wide: largest}
}

// narrow returns parameters with a greatest width.
func narrow(wide, least, first, most int64) api.StepControl {
	c := sized(least, first, most)
	c.Wide = wide
	return c
}

// during returns a horizon.
func during(c api.StepControl, start, last int64) api.Horizon {
	return api.Horizon{Ctrl: c, T: start, Last: last}
}

// compiled returns the tape of a system.
func compiled(t *testing.T, text string) api.Tape {
	t.Helper()
	s, offset, err := ode.Parse(text)
	if err != api.OK {
		t.Fatalf("%q is no system: error %v at %d", text, err, offset)
	}
	return tape.Compile(s)
}

func equalSegments(a, b api.Segment) bool {
	return a.T == b.T && a.H == b.H && slices.Equal(a.From, b.From) && slices.Equal(a.Pre, b.Pre) && slices.Equal(a.Tube, b.Tube) && slices.Equal(a.To, b.To)
}

func equalFlows(a, b []api.Segment) bool { return slices.EqualFunc(a, b, equalSegments) }

// lines returns the flow of a system whose derivatives are in the box slopes, in units
// for each unit of time, with steps of the given lengths.
func lines(start int64, x, slopes []api.Interval, lengths ...int64) []api.Segment {
	var l []api.Segment
	for _, h := range lengths {
		s := api.Segment{T: start, H: h, From: x}
		for i, a := range x {
			lo, hi := h*slopes[i].Lo, h*slopes[i].Hi
			s.To = append(s.To, between(a.Lo+lo, a.Hi+hi))
			s.Tube = append(s.Tube, between(a.Lo+min(lo, 0), a.Hi+max(hi, 0)))
		}
		s.Pre = s.Tube
		l = append(l, s)
		start, x = start+h, s.To
	}
	return l
}

// rising returns the flow of x' = 1 from 0.
func rising(start int64, lengths ...int64) []api.Segment {
	return lines(start, of(point(0)), of(point(1)), lengths...)
}

// checkFlow checks what Integrate returns: no flow if an error is wanted.
func checkFlow(t *testing.T, text string, x []api.Interval, w api.Horizon, want []api.Segment, code api.Errno) {
	t.Helper()
	got, err := Integrate(compiled(t, text), x, w)
	if !equalFlows(got, want) || err != code || code != api.OK && got != nil {
		t.Errorf("Integrate(%q, %v, %v) = %v, %v, want %v, %v", text, x, w, got, err, want, code)
	}
}

// TestExamples has the calls of the section "Examples".
func TestExamples(t *testing.T) {
	l, err := Integrate(compiled(t, "x'=1"), of(point(0)), during(sized(one, one, one), 0, 3*one))
	if !equalFlows(l, rising(0, one, one, one)) || err != api.OK {
		t.Fatalf("the flow is %v, %v", l, err)
	}
	for i, want := range []api.Interval{whole(0, 1), whole(1, 2), whole(2, 3)} {
		if got := l[i].Tube; !slices.Equal(got, of(want)) {
			t.Errorf("tube %d is %v", i, got)
		}
	}
	if b, ok := At(l, one); !slices.Equal(b, of(whole(1, 1))) || !ok {
		t.Errorf("at 1: %v, %v", b, ok)
	}
	if b, ok := During(l, between(one/2, one)); !slices.Equal(b, of(whole(0, 2))) || !ok {
		t.Errorf("from 1/2 to 1: %v, %v", b, ok)
	}
}

// TestWrongArguments has controls and horizons that are not valid.
func TestWrongArguments(t *testing.T) {
	good := sized(1, one, one)
	for i, w := range []api.Horizon{
		during(api.StepControl{}, 0, one), during(sized(0, one, one), 0, one), during(sized(one+1, one, one), 0, one), during(sized(1, one, one-1), 0, one), during(sized(1, one, api.Max), 0, one), during(narrow(0, 1, one, one), 0, one), during(narrow(api.Max, 1, one, one), 0, one),
		during(api.StepControl{Order: 0, First: one, Least: 1, Most: one, Wide: one}, 0, one), during(api.StepControl{Order: 8, First: one, Least: 1, Most: one, Wide: one}, 0, one), during(api.StepControl{Order: -1, First: one, Least: 1, Most: one, Wide: one}, 0, one),
		// No numbers.
		during(good, -api.Max, 0), during(good, -api.Max-1, 0), during(good, math.MinInt64, 0), during(good, -api.Max, 1-api.Max), during(good, math.MinInt64, 1+math.MinInt64),
		during(good, 0, api.Max), during(good, 0, api.Max+1), during(good, 0, math.MaxInt64), during(good, largest, api.Max), during(good, math.MaxInt64-1, math.MaxInt64), during(good, -api.Max, api.Max), during(good, math.MinInt64, math.MaxInt64),
		// No time.
		during(good, 0, 0), during(good, one, one), during(good, -one, -one), during(good, largest, largest), during(good, -largest, -largest), during(good, 1, 0), during(good, 0, -1), during(good, one, 0), during(good, one, -one), during(good, largest, largest-1), during(good, 1-largest, -largest), during(good, largest, 0), during(good, 5, -api.Max), during(good, api.Max, 5), during(good, math.MaxInt64, math.MinInt64),
	} {
		// This comes before whether there are steps.
		for _, text := range []string{"x'=1", "x'=1/x"} {
			if l, err := Integrate(compiled(t, text), of(point(0)), w); l != nil || err != api.ErrArg {
				t.Errorf("case %d: Integrate(%q, %v) = %v, %v", i, text, w, l, err)
			}
		}
	}
}

// TestSteps has systems with the derivative 1, whose steps are known.
func TestSteps(t *testing.T) {
	for _, y := range []struct {
		c           api.StepControl
		start, last int64
		lengths     []int64
	}{
		// One unit, whatever the sizes.
		{sized(1, 1, 1), 0, 1, []int64{1}}, {sized(1, one, one), 0, 1, []int64{1}}, {sized(1024, one/2, one), 0, 1, []int64{1}}, {sized(largest, largest, largest), 0, 1, []int64{1}}, {narrow(1, 1, one, one), 0, 1, []int64{1}},
		// One step, less than that, and more.
		{sized(1024, one/2, one), 0, one / 2, []int64{one / 2}}, {sized(1024, one/2, one), 0, one/2 - 1, []int64{one/2 - 1}}, {sized(1024, one/2, one), 0, one/2 + 1, []int64{one / 2, 1}}, {sized(one, one, one), 5, one + 5, []int64{one}}, {sized(one, one, one), 5, one + 6, []int64{one, 1}},
		// Several steps.
		{sized(one, one, one), 0, 3 * one, []int64{one, one, one}}, {sized(1, one, one), 0, 3*one - 1, []int64{one, one, one - 1}}, {sized(1, one, one), 0, 5*one/2 + 7, []int64{one, one, one/2 + 7}}, {sized(1, 4, 4), 0, 10, []int64{4, 4, 2}},
		// They grow up to the greatest size, and the last one is cut.
		{sized(1, 1, largest), 0, 100, []int64{1, 2, 4, 8, 16, 32, 37}}, {sized(1, 1, largest), 0, 127, []int64{1, 2, 4, 8, 16, 32, 64}}, {sized(1, 1, largest), 0, 128, []int64{1, 2, 4, 8, 16, 32, 64, 1}}, {sized(1, 1, 8), 0, 30, []int64{1, 2, 4, 8, 8, 7}}, {sized(1, 1, 8), 0, 31, []int64{1, 2, 4, 8, 8, 8}}, {sized(1, 3, 20), 0, 50, []int64{3, 6, 12, 20, 9}}, {sized(3, 3, 20), 0, 42, []int64{3, 6, 12, 20, 1}}, {sized(1, 1, 1), 0, 5, []int64{1, 1, 1, 1, 1}},
		// They are halved while they are too wide, and grow afterwards.
		{narrow(20000, 1024, one/2, one), 0, one, []int64{16384, 16384, 16384, 16384}}, {narrow(20000, 1024, one/2, one), 0, 50000, []int64{16384, 16384, 17232}}, {narrow(20000, 1024, 1024, one), 0, one, []int64{1024, 2048, 4096, 8192, 16384, 16384, 17408}}, {narrow(2, 1, 4, 4), 0, 7, []int64{2, 2, 1, 2}}, {narrow(3, 1, 4, 4), 0, 7, []int64{2, 2, 3}},
		// All times.
		{sized(1, one, one), -3 * one, -one, []int64{one, one}}, {sized(1, one, one), -one, one, []int64{one, one}}, {sized(1, one, one), -one / 2, one, []int64{one, one / 2}}, {sized(1, one, one), -1, 0, []int64{1}}, {sized(1, one, one), -1, 1, []int64{2}},
		{sized(1, 4, 4), -largest, 5 - largest, []int64{4, 1}}, {sized(1, 4, 4), -largest, 1 - largest, []int64{1}}, {sized(1, 4, 4), largest - 5, largest, []int64{4, 1}}, {sized(1, 4, 4), largest - 1, largest, []int64{1}},
	} {
		checkFlow(t, "x'=1", of(point(0)), during(y.c, y.start, y.last), rising(y.start, y.lengths...), api.OK)
	}
	for _, w := range []api.Horizon{during(sized(1, largest, largest), -largest, 0), during(sized(1, largest, largest), 0, largest), during(sized(1, largest, largest), -1, largest-1)} {
		checkFlow(t, "x'=0", of(between(5, 9)), w, lines(w.T, of(between(5, 9)), of(point(0)), largest), api.OK)
	}
}

// TestSystems has other systems than x' = 1.
func TestSystems(t *testing.T) {
	w := during(sized(1, one, one), 0, 2*one)
	checkFlow(t, "x'=-3", of(between(-one, one)), w, lines(0, of(between(-one, one)), of(point(-3)), one, one), api.OK)
	checkFlow(t, "x'=[-1,2]", of(point(5)), w, lines(0, of(point(5)), of(between(-1, 2)), one, one), api.OK)
	six := of(point(5), whole(0, 1), between(-7, -3), whole(-1, 1), point(0), point(-one))
	slopes := of(point(5), point(-3), point(1), between(-6, 2), point(2), point(0))
	checkFlow(t, "a'=5\nb'=-3\nc'=1\nd'=[-6,2]\ne'=2\nf'=0", six, w, lines(0, six, slopes, one, one), api.OK)
	// The time goes on from step to step.
	checkFlow(t, "x'=t", of(point(0)), w, []api.Segment{
		{T: 0, H: one, From: of(point(0)), Pre: of(whole(0, 1)), Tube: of(between(0, one/2)), To: of(point(one / 2))},
		{T: one, H: one, From: of(point(one / 2)), Pre: of(between(one/2, 5*one/2)), Tube: of(between(one/2, 2*one)), To: of(whole(2, 2))},
	}, api.OK)
}

// TestFailingSteps has horizons with a step that fails.
func TestFailingSteps(t *testing.T) {
	w := during(sized(1, one, one), 0, one)
	for _, y := range []struct {
		text string
		x    []api.Interval
	}{{"x'=1/x", of(point(0))}, {"x'=1/x", of(whole(-1, 1))}, {"x'=sqrt(x)", of(whole(-1, -1))}, {"x'=all", of(point(0))}, {"x'=0", of(entire)}, {"x'=0", of(point(largest))}, {"x'=0\ny'=0", of(point(0), entire)}} {
		checkFlow(t, y.text, y.x, w, nil, api.ErrStep)
	}
	// The step that fails is the sixth one, as the boxes get ever wider.
	for last := range int64(5) {
		lengths := slices.Repeat([]int64{1}, int(last)+1)
		checkFlow(t, "x'=[0,1]", of(point(0)), during(narrow(5, 1, 1, 1), 0, last+1), lines(0, of(point(0)), of(between(0, 1)), lengths...), api.OK)
	}
	for _, last := range []int64{6, 7, 256, 257, largest} {
		checkFlow(t, "x'=[0,1]", of(point(0)), during(narrow(5, 1, 1, 1), 0, last), nil, api.ErrStep)
	}
	// Steps of a greater least size fail earlier.
	checkFlow(t, "x'=[0,1]", of(point(0)), during(narrow(7, 1, 4, 4), 0, 7), lines(0, of(point(0)), of(between(0, 1)), 4, 3), api.OK)
	checkFlow(t, "x'=[0,1]", of(point(0)), during(narrow(7, 2, 4, 4), 0, 8), nil, api.ErrStep)
	// A solution that is out of range before the time 1/2.
	checkFlow(t, "x'=sqr(x)", of(whole(2, 2)), w, nil, api.ErrStep)
}

// TestBudget has horizons for which 256 steps are just enough, and not enough.
func TestBudget(t *testing.T) {
	unit, sloped := sized(1, 1, 1), of(between(0, 1))
	ones := slices.Repeat([]int64{1}, 256)
	checkFlow(t, "x'=1", of(point(0)), during(unit, 0, 255), rising(0, ones[:255]...), api.OK)
	checkFlow(t, "x'=1", of(point(0)), during(unit, 0, 256), rising(0, ones...), api.OK)
	checkFlow(t, "x'=1", of(point(0)), during(unit, -largest, 256-largest), rising(-largest, ones...), api.OK)
	for _, last := range []int64{257, 258, one, largest} {
		checkFlow(t, "x'=1", of(point(0)), during(unit, 0, last), nil, api.ErrBudget)
	}
	twos := append([]int64{1}, slices.Repeat([]int64{2}, 255)...)
	checkFlow(t, "x'=1", of(point(0)), during(sized(1, 1, 2), 0, 511), rising(0, twos...), api.OK)
	checkFlow(t, "x'=1", of(point(0)), during(sized(1, 1, 2), 0, 512), nil, api.ErrBudget)
	// The error of the step that is one too many comes before that.
	checkFlow(t, "x'=[0,1]", of(point(0)), during(narrow(256, 1, 1, 1), 0, 256), lines(0, of(point(0)), sloped, ones...), api.OK)
	checkFlow(t, "x'=[0,1]", of(point(0)), during(narrow(256, 1, 1, 1), 0, 257), nil, api.ErrStep)
	checkFlow(t, "x'=[0,1]", of(point(0)), during(narrow(257, 1, 1, 1), 0, 257), nil, api.ErrBudget)
	checkFlow(t, "x'=[0,1]", of(point(0)), during(narrow(257, 1, 1, 1), 0, 258), nil, api.ErrBudget)
}

// flat returns a flow of n steps of one unit with the same box.
func flat(n int, b []api.Interval) []api.Segment {
	var l []api.Segment
	for i := range int64(n) {
		l = append(l, api.Segment{T: i, H: 1, From: b, Pre: b, Tube: b, To: b})
	}
	return l
}

func TestValid(t *testing.T) {
	pair, six := of(point(1), entire), slices.Repeat(of(whole(-1, 1)), 6)
	for _, y := range []struct {
		l    []api.Segment
		want bool
	}{
		// 1 to 256 segments.
		{nil, false}, {[]api.Segment{}, false}, {flat(1, pair), true}, {flat(2, pair), true}, {flat(255, pair), true}, {flat(256, pair), true}, {flat(257, pair), false}, {flat(999, pair), false}, {make([]api.Segment, 1), false}, {make([]api.Segment, 2), false},
		{rising(0, one, one, one), true}, {rising(-largest, 1, 2, 3), true}, {rising(-one, 2*one, one/2), true},
		// Boxes of 1 to 6 coordinates.
		{flat(3, nil), false}, {flat(3, of()), false}, {flat(3, of(point(0))), true}, {flat(3, six), true}, {flat(3, append(slices.Clip(six), point(0))), false}, {flat(3, of(entire)), true}, {flat(3, of(between(1, 0))), false},
		// The least and the greatest times.
		{rising(-largest, 1), true}, {rising(-api.Max, 1), false}, {rising(-api.Max, 1, 1), false}, {rising(-api.Max, api.Max), false}, {rising(-api.Max-5, 9), false}, {rising(math.MinInt64, 1), false},
		{rising(largest-1, 1), true}, {rising(largest-2, 1, 1), true}, {rising(largest-1, 1, 1), false}, {rising(largest, 1), false}, {rising(largest-1, 2), false}, {rising(api.Max, 1), false}, {rising(math.MaxInt64, 1), false}, {rising(math.MaxInt64-1, 1), false},
		// H alone is no number, or the end alone.
		{lines(-1, of(point(0)), of(point(0)), largest), true}, {lines(-1, of(point(0)), of(point(0)), api.Max), false}, {lines(-9, of(point(0)), of(point(0)), api.Max), false}, {lines(-largest, of(point(0)), of(point(0)), api.Max), false}, {lines(-largest, of(point(0)), of(point(0)), largest), true}, {lines(-largest, of(point(0)), of(point(0)), largest, largest), true}, {lines(-largest, of(point(0)), of(point(0)), largest, largest, 1), false}, {lines(0, of(point(0)), of(point(0)), largest), true}, {lines(1, of(point(0)), of(point(0)), largest), false}, {lines(-9, of(point(0)), of(point(0)), math.MaxInt64), false},
		// The length 0, and less.
		{rising(0, 0), false}, {rising(0, -1), false}, {rising(0, math.MinInt64), false}, {rising(0, 1, 0, 1), false}, {rising(0, 0, 1), false}, {rising(0, 1, 0), false}, {rising(0, 5, -1, 5), false},
		// Gaps and overlaps.
		{append(rising(0, 1, 2), rising(3, 4)...), true}, {append(rising(0, 1, 2), rising(4, 4)...), false}, {append(rising(0, 1, 2), rising(2, 4)...), false}, {append(rising(0, 1, 2), rising(0, 4)...), false}, {append(rising(0, 1, 2), rising(-3, 4)...), false}, {append(rising(0, 1), rising(2, 4, 9)...), false}, {append(rising(0, 1), rising(0, 4, 9)...), false}, {append(rising(5, 1), rising(5, 1)...), false}, {slices.Concat(rising(3, 1), rising(2, 1), rising(1, 1)), false},
		// Boxes need not fit to each other.
		{append(rising(0, 1), lines(1, of(point(77)), of(point(-9)), 5)...), true},
		{[]api.Segment{{T: 7, H: 1, From: of(point(1)), Pre: of(point(2)), Tube: of(point(3)), To: of(point(4))}}, true},
		// Other numbers of coordinates in another segment.
		{append(rising(0, 1), lines(1, pair, pair, 1)...), false}, {append(lines(0, pair, pair, 1), rising(1, 1)...), false},
	} {
		if got := Valid(y.l); got != y.want {
			t.Errorf("Valid(%v) = %v", y.l, got)
		}
	}
}

// fields returns the boxes of a segment, to be changed.
func fields(s *api.Segment) []*[]api.Interval {
	return []*[]api.Interval{&s.From, &s.Pre, &s.Tube, &s.To}
}

// TestValidBoxes replaces each box of each segment.
func TestValidBoxes(t *testing.T) {
	for i := range 3 {
		for k := range 4 {
			for _, y := range []struct {
				b    []api.Interval
				want bool
			}{
				{of(point(0), point(0)), true}, {of(entire, between(-largest, largest)), true}, {of(whole(2, 3), whole(-3, -2)), true},
				{nil, false}, {of(), false}, {of(point(0)), false}, {of(point(0), point(0), point(0)), false}, {make([]api.Interval, 7), false},
				{of(point(0), between(1, 0)), false}, {of(between(1, 0), point(0)), false}, {of(point(0), point(api.Max)), false}, {of(between(-api.Max, 0), point(0)), false}, {of(between(0, api.Max), point(0)), false}, {of(point(0), between(math.MinInt64, math.MaxInt64)), false}, {of(between(api.Max, -api.Max), point(0)), false},
			} {
				l := lines(0, of(point(5), whole(0, 1)), of(point(1), point(2)), 1, 2, 3)
				*fields(&l[i])[k] = y.b
				if got := Valid(l); got != y.want {
					t.Errorf("Valid(%v) = %v", l, got)
				}
			}
		}
	}
}

// uneven returns a flow from -5 to 4 whose boxes all differ, so that they are known from
// each other.
func uneven() []api.Segment {
	segment := func(start, h, n int64) api.Segment {
		return api.Segment{T: start, H: h, From: of(between(n, n+3), point(1)), Pre: of(between(n-9, n+90), whole(-9, 9)), Tube: of(between(n-1, n+30), point(n)), To: of(between(n+10, n+20), point(2))}
	}
	return []api.Segment{segment(-5, 2, 1000), segment(-3, 1, 2000), segment(-2, 5, 500), segment(3, 1, 700)}
}

func TestEnd(t *testing.T) {
	for n := range 4 {
		l := uneven()[:n+1]
		to := of(between([]int64{1010, 2010, 510, 710}[n], []int64{1020, 2020, 520, 720}[n]), point(2))
		if b, last, ok := End(l); !slices.Equal(b, to) || last != []int64{-3, -2, 3, 4}[n] || !ok {
			t.Errorf("End(%v) = %v, %d, %v", l, b, last, ok)
		}
	}
	for _, l := range [][]api.Segment{nil, {}} {
		if b, last, ok := End(l); b != nil || last != 0 || ok {
			t.Errorf("End(%v) = %v, %d, %v", l, b, last, ok)
		}
	}
	if b, last, ok := End(rising(largest-3, 1, 2)); !slices.Equal(b, of(point(3))) || last != largest || !ok {
		t.Errorf("the end is %v, %d, %v", b, last, ok)
	}
	if b, last, ok := End(rising(-2, 1, 1)); !slices.Equal(b, of(point(2))) || last != 0 || !ok {
		t.Errorf("the end is %v, %d, %v", b, last, ok)
	}
}

func equalItems(a, b api.Item) bool {
	return a.Id == b.Id && a.T == b.T && slices.Equal(a.Box, b.Box)
}

func TestItems(t *testing.T) {
	want := []api.Item{
		{T: between(-5, -3), Box: of(between(999, 1030), point(1000))}, {T: between(-3, -2), Box: of(between(1999, 2030), point(2000))},
		{T: between(-2, 3), Box: of(between(499, 530), point(500))}, {T: between(3, 4), Box: of(between(699, 730), point(700))},
	}
	for _, id := range []int{0, 1, 7, -7, math.MaxInt, math.MinInt} {
		for i := range want {
			want[i].Id = id
		}
		for n := range 5 {
			if got := Items(id, uneven()[:n]); !slices.EqualFunc(got, want[:n], equalItems) {
				t.Errorf("Items(%d) of %d segments = %v", id, n, got)
			}
		}
		if got := Items(id, nil); len(got) != 0 {
			t.Errorf("Items(%d, nil) = %v", id, got)
		}
	}
	for _, start := range []int64{-largest, largest - 1} {
		if got := Items(3, rising(start, 1)); len(got) != 1 || !equalItems(got[0], api.Item{Id: 3, T: between(start, start+1), Box: of(between(0, 1))}) {
			t.Errorf("the items from %d are %v", start, got)
		}
	}
	for i, got := range Items(9, flat(256, of(entire))) {
		if !equalItems(got, api.Item{Id: 9, T: between(int64(i), int64(i)+1), Box: of(entire)}) {
			t.Errorf("item %d is %v", i, got)
		}
	}
}

// checkAt checks the box at a time, which is nil if there is none.
func checkAt(t *testing.T, l []api.Segment, at int64, want []api.Interval) {
	t.Helper()
	if got, ok := At(l, at); !slices.Equal(got, want) || ok != (want != nil) || !ok && got != nil {
		t.Errorf("At(%v, %d) = %v, %v, want %v", l, at, got, ok, want)
	}
}

func TestAt(t *testing.T) {
	l := uneven()
	for at, want := range map[int64][]api.Interval{
		// Before the start, and behind the end.
		-6: nil, -7: nil, -one: nil, -largest: nil, 5: nil, 6: nil, one: nil, largest: nil,
		// At the starts of all segments.
		-5: l[0].From, -3: l[1].From, -2: l[2].From, 3: l[3].From,
		// In between.
		-4: l[0].Tube, -1: l[2].Tube, 0: l[2].Tube, 1: l[2].Tube, 2: l[2].Tube,
		// At the end.
		4: l[3].To,
	} {
		checkAt(t, l, at, want)
	}
	// One segment.
	for at, want := range map[int64][]api.Interval{-6: nil, -5: l[0].From, -4: l[0].Tube, -3: l[0].To, -2: nil} {
		checkAt(t, l[:1], at, want)
	}
	for at, want := range map[int64][]api.Interval{2: nil, 3: l[3].From, 4: l[3].To, 5: nil} {
		checkAt(t, l[3:], at, want)
	}
	for _, at := range []int64{0, 1, -1, largest, -largest} {
		checkAt(t, nil, at, nil)
		checkAt(t, l[:0], at, nil)
	}
	// The least and the greatest times, and all of them.
	for _, start := range []int64{-largest, largest - 3} {
		edge := rising(start, 1, 2)
		for at, want := range map[int64][]api.Interval{start - 1: nil, start: of(point(0)), start + 1: of(point(1)), start + 2: of(between(1, 3)), start + 3: of(point(3)), start + 4: nil} {
			checkAt(t, edge, at, want)
		}
	}
	long := lines(-largest, of(point(4)), of(point(0)), largest, largest)
	for _, at := range []int64{-largest, 1 - largest, -1, 0, 1, largest - 1, largest} {
		checkAt(t, long, at, of(point(4)))
	}
	// As many segments as there may be.
	many := rising(0, slices.Repeat([]int64{2}, 256)...)
	for at := int64(-3); at < 516; at++ {
		switch {
		case at < 0 || at > 512:
			checkAt(t, many, at, nil)
		case at%2 == 0:
			checkAt(t, many, at, of(point(at)))
		default:
			checkAt(t, many, at, of(between(at-1, at+1)))
		}
	}
}

// checkDuring checks the box in an interval, which is nil if there is none.
func checkDuring(t *testing.T, l []api.Segment, at api.Interval, want []api.Interval) {
	t.Helper()
	if got, ok := During(l, at); !slices.Equal(got, want) || ok != (want != nil) || !ok && got != nil {
		t.Errorf("During(%v, %v) = %v, %v, want %v", l, at, got, ok, want)
	}
}

func TestDuring(t *testing.T) {
	l := uneven()
	tube := func(lo, hi, from, to int64) []api.Interval { return of(between(lo, hi), between(from, to)) }
	for at, want := range map[api.Interval][]api.Interval{
		// Points before the start, in segments, at their ends, and behind the end.
		point(-6): nil, point(-5): l[0].Tube, point(-4): l[0].Tube, point(-3): tube(999, 2030, 1000, 2000), point(-2): tube(499, 2030, 500, 2000), point(-1): l[2].Tube, point(0): l[2].Tube, point(2): l[2].Tube, point(3): tube(499, 730, 500, 700), point(4): l[3].Tube, point(5): nil, point(largest): nil, point(-largest): nil,
		// Intervals that touch a segment in one point only, or do not.
		between(-9, -5): l[0].Tube, between(-largest, -5): l[0].Tube, between(-9, -6): nil, between(-largest, -6): nil, between(4, 9): l[3].Tube, between(4, largest): l[3].Tube, between(5, 9): nil, between(5, largest): nil,
		between(-4, -3): tube(999, 2030, 1000, 2000), between(-2, 0): tube(499, 2030, 500, 2000), between(1, 3): tube(499, 730, 500, 700),
		// In one segment.
		between(-1, 2): l[2].Tube, between(0, 1): l[2].Tube, between(-9, -4): l[0].Tube, between(-5, -4): l[0].Tube,
		// In two or more.
		between(-4, -2): tube(499, 2030, 500, 2000), between(-3, -2): tube(499, 2030, 500, 2000), between(-1, 3): tube(499, 730, 500, 700), between(-2, 3): tube(499, 2030, 500, 2000), between(-1, 9): tube(499, 730, 500, 700), between(3, 4): tube(499, 730, 500, 700), between(-9, -3): tube(999, 2030, 1000, 2000),
		// In all.
		between(-5, 4): tube(499, 2030, 500, 2000), between(-4, 3): tube(499, 2030, 500, 2000), between(-99, 99): tube(499, 2030, 500, 2000), entire: tube(499, 2030, 500, 2000), between(-largest, largest): tube(499, 2030, 500, 2000),
		between(-largest, -4): l[0].Tube, between(-largest, -3): tube(999, 2030, 1000, 2000), between(0, largest): tube(499, 730, 500, 700),
	} {
		checkDuring(t, l, at, want)
		checkDuring(t, nil, at, nil)
		checkDuring(t, l[:0], at, nil)
	}
	for at, want := range map[api.Interval][]api.Interval{point(-6): nil, point(-5): l[0].Tube, between(-9, -4): l[0].Tube, point(-4): l[0].Tube, point(-3): l[0].Tube, between(-3, 9): l[0].Tube, point(-2): nil, entire: l[0].Tube} {
		checkDuring(t, l[:1], at, want)
	}
	// The least and the greatest times.
	for _, start := range []int64{-largest, largest - 3} {
		edge := rising(start, 1, 2)
		for at, want := range map[api.Interval]api.Interval{point(start): between(0, 1), between(start, start+1): between(0, 3), point(start + 2): between(1, 3), point(start + 3): between(1, 3), entire: between(0, 3)} {
			checkDuring(t, edge, at, of(want))
		}
	}
	checkDuring(t, rising(-largest, 1, 2), between(4-largest, largest), nil)
	checkDuring(t, rising(largest-3, 1, 2), between(-largest, largest-4), nil)
	// Boxes that are entire.
	wide := flat(3, of(entire))
	wide[0].Tube, wide[2].Tube = of(point(5)), of(point(-5))
	for at, want := range map[api.Interval]api.Interval{point(0): point(5), point(1): entire, point(3): point(-5), between(0, 3): entire} {
		checkDuring(t, wide, at, of(want))
	}
	// As many segments as there may be.
	many := rising(0, slices.Repeat([]int64{1}, 256)...)
	for lo := int64(-2); lo <= 258; lo += 3 {
		for hi := lo; hi <= 259; hi++ {
			var want []api.Interval
			if from, to := max(lo-1, 0), min(hi+1, 256); from < 256 && to > 0 && lo <= 256 && hi >= 0 {
				want = of(between(from, to))
			}
			checkDuring(t, many, between(lo, hi), want)
		}
	}
}

// oddTapes returns tapes that are not valid.
func oddTapes() []api.Tape {
	return []api.Tape{
		{}, {N: 1}, {N: math.MaxInt}, {N: math.MinInt, Out: []int{0}}, {N: 1, Out: []int{0}}, {N: 1, Out: []int{-1}}, {N: 7, L: []api.Instruction{{Op: api.Time}}, Out: make([]int, 7)},
		{N: 1, L: []api.Instruction{{Op: api.Neg}}, Out: []int{0}}, {N: 1, L: []api.Instruction{{Op: api.Div, A: -1, B: math.MaxInt}}, Out: []int{0}}, {N: 1, L: []api.Instruction{{Op: 11}}, Out: []int{0}}, {N: 1, L: []api.Instruction{{Op: api.Var, A: 1}}, Out: []int{0}}, {N: 1, L: []api.Instruction{{Op: api.Num, C: between(1, 0)}}, Out: []int{0}},
	}
}

// oddNumbers returns numbers at the limits of what is specified, and beyond them.
func oddNumbers() []int64 {
	return []int64{0, 1, -1, one, largest, -largest, api.Max, -api.Max, math.MaxInt64, math.MinInt64, math.MaxInt64 / 2, math.MinInt64 / 2}
}

// oddBoxes returns boxes, and slices of intervals that are none.
func oddBoxes() [][]api.Interval {
	return [][]api.Interval{nil, {}, {point(0)}, {entire}, {between(1, 0)}, {point(1), point(2)}, {point(api.Max), between(5, 0)}, {between(math.MinInt64, math.MaxInt64), between(math.MaxInt64, math.MinInt64)}, make([]api.Interval, 7)}
}

// TestNothingPanics calls all functions with all kinds of arguments, those for which
// nothing else is specified among them.
func TestNothingPanics(t *testing.T) {
	flows := [][]api.Segment{nil, make([]api.Segment, 3), uneven(), rising(math.MaxInt64-1, 1, 1), rising(0, math.MaxInt64, math.MaxInt64), rising(math.MinInt64, -1, 5, math.MinInt64), append(rising(5, 1), rising(-5, 1, 2)...)}
	for _, b := range oddBoxes() {
		for _, d := range oddBoxes() {
			flows = append(flows, append(flat(2, b), flat(2, d)...), []api.Segment{{H: 9, From: b, To: d}, {T: 9, H: -1, Tube: b}, {T: 2, H: 9, Tube: d}})
		}
	}
	for i, l := range flows {
		Valid(l)
		End(l)
		Items(math.MinInt, l)
		for _, lo := range oddNumbers() {
			At(l, lo)
			for _, hi := range oddNumbers() {
				if b, ok := During(l, between(lo, hi)); !ok && b != nil {
					t.Errorf("case %d: During with %d and %d = %v, %v", i, lo, hi, b, ok)
				}
			}
		}
	}
	for _, p := range append(oddTapes(), compiled(t, "x'=1"), compiled(t, "x'=y\ny'=-x")) {
		for _, x := range oddBoxes() {
			for _, start := range oddNumbers() {
				for i, last := range oddNumbers() {
					size := oddNumbers()[(i*5+3)%12]
					for _, c := range []api.StepControl{sized(1, one, one), sized(largest, largest, largest), sized(size, size, size), {}} {
						if l, err := Integrate(p, x, during(c, start, last)); err == api.OK && box.Valid(x) && !Valid(l) || err != api.OK && l != nil {
							t.Fatalf("Integrate(%v, %v, %v, %d, %d) = %v, %v", p, x, c, start, last, l, err)
						}
					}
				}
			}
		}
	}
}

// TestImports checks that the package imports no other layers than interval, box and
// control.
func TestImports(t *testing.T) {
	files, err := filepath.Glob("*.go")
	if err != nil || len(files) == 0 {
		t.Fatal("no files", err)
	}
	allowed := []string{`"armillary/api"`, `"armillary/interval"`, `"armillary/box"`, `"armillary/control"`}
	for _, name := range files {
		if strings.HasSuffix(name, "_test.go") {
			continue
		}
		file, err := parser.ParseFile(token.NewFileSet(), name, nil, parser.ImportsOnly)
		if err != nil {
			t.Fatal(err)
		}
		for _, spec := range file.Imports {
			if path := spec.Path.Value; strings.HasPrefix(path, `"armillary`) && !slices.Contains(allowed, path) {
				t.Errorf("%s imports %s", name, path)
			}
		}
	}
}
