package flow

import (
	"slices"
	"testing"

	"armillary/api"
)

// Tests of P2: results depend on the arguments only, and these are not modified.

// results are those of all functions.
type results struct {
	l                    []api.Segment
	err                  api.Errno
	valid                bool
	to, at, during       []api.Interval
	last                 int64
	hasEnd, hasAt, hasIn bool
	items                []api.Item
}

// call calls Integrate, and the other functions for a flow and an interval of times.
func call(p api.Tape, x []api.Interval, w api.Horizon, l []api.Segment, t api.Interval) results {
	r := results{valid: Valid(l), items: Items(7, l)}
	r.l, r.err = Integrate(p, x, w)
	r.to, r.last, r.hasEnd = End(l)
	r.at, r.hasAt = At(l, t.Lo)
	r.during, r.hasIn = During(l, t)
	return r
}

func equalResults(a, b results) bool {
	flows := equalFlows(a.l, b.l) && a.err == b.err && a.valid == b.valid && slices.EqualFunc(a.items, b.items, equalItems)
	boxes := slices.Equal(a.to, b.to) && slices.Equal(a.at, b.at) && slices.Equal(a.during, b.during)
	return flows && boxes && a.last == b.last && a.hasEnd == b.hasEnd && a.hasAt == b.hasAt && a.hasIn == b.hasIn
}

// TestResultsDependOnArgumentsOnly calls the functions again after other calls.
func TestResultsDependOnArgumentsOnly(t *testing.T) {
	p, x, w := compiled(t, "x'=v+t\nv'=-x*sqr(t)"), of(point(one), point(5)), during(narrow(30000, 16, one, one), -one, one)
	first := call(p, x, w, uneven(), between(-4, -3))
	call(compiled(t, "x'=sqr(x)"), of(whole(99, 99)), during(sized(1, 1, 1), 0, one), flat(3, of(entire)), entire)
	call(compiled(t, "x'=1"), of(point(0)), during(sized(1, 1, 1), 0, 5), rising(0, 1), point(5))
	if second := call(p, x, w, uneven(), between(-4, -3)); !equalResults(first, second) || first.err != api.OK || len(first.l) < 5 || !first.valid || !first.hasAt {
		t.Errorf("first %v, then %v", first, second)
	}
}

// roomy returns a slice with room behind it.
func roomy[T any](l []T, behind ...T) []T {
	return append(slices.Clip(slices.Clone(l)), behind...)[:len(l)]
}

// overwrite changes all elements of a slice, and the room behind them.
func overwrite[T any](l []T, by T) {
	l = l[:cap(l)]
	for i := range l {
		l[i] = by
	}
}

// boxesOf returns the boxes in results.
func boxesOf(r results) [][]api.Interval {
	l := [][]api.Interval{r.to, r.at, r.during}
	for _, s := range r.l {
		l = append(l, s.From, s.Pre, s.Tube, s.To)
	}
	for _, y := range r.items {
		l = append(l, y.Box)
	}
	return l
}

// roomyFlow returns a flow with room behind it and behind its boxes.
func roomyFlow(l []api.Segment) []api.Segment {
	l = roomy(l, rising(77, 1)...)
	for i := range l {
		for _, b := range fields(&l[i]) {
			*b = roomy(*b, point(77), point(78))
		}
	}
	return l
}

// TestArgumentsStay overwrites the results, with all the room behind them: neither the
// arguments, the room behind them nor the other parts of a result may change.
func TestArgumentsStay(t *testing.T) {
	for _, y := range []struct {
		text string
		x    []api.Interval
		w    api.Horizon
		at   api.Interval
		err  api.Errno
	}{
		{"x'=0", of(between(3, 7)), during(sized(1, one, one), 0, 3*one), between(-5, 4), api.OK},
		{"x'=1", of(point(0)), during(sized(1, one, one), -one, one), between(-4, -4), api.OK},
		{"x'=x", of(whole(1, 1)), during(narrow(9000, 1, one, one), 0, one), between(4, 4), api.OK},
		{"x'=v\nv'=-x", of(point(0), point(one)), during(sized(1, one/4, one/4), 0, one), between(-3, 0), api.OK},
		{"x'=1/x", of(whole(-1, 1)), during(sized(1, one, one), 0, one), point(3), api.ErrStep},
		{"x'=1", of(point(0)), during(sized(1, 1, 1), 0, 300), between(4, 9), api.ErrBudget},
		{"x'=1", of(point(0)), during(sized(1, 1, 1), 0, 0), point(99), api.ErrArg},
	} {
		p, x, l := compiled(t, y.text), roomy(y.x, point(77), point(78)), roomyFlow(uneven())
		p.L, p.Out = roomy(p.L, api.Instruction{Op: api.Time}), roomy(p.Out, 77, 78)
		x0, in, out := slices.Clone(x[:cap(x)]), slices.Clone(p.L[:cap(p.L)]), slices.Clone(p.Out[:cap(p.Out)])
		want := call(compiled(t, y.text), y.x, y.w, uneven(), y.at)
		got := call(p, x, y.w, l, y.at)
		if !equalResults(got, want) || got.err != y.err {
			t.Errorf("the results for %q are %v, want %v", y.text, got, want)
		}
		boxes, left := boxesOf(got), boxesOf(want)
		for i := range boxes {
			if !slices.EqualFunc(boxes[i:], left[i:], slices.Equal) {
				t.Errorf("the other boxes for %q are %v, want %v", y.text, boxes[i:], left[i:])
			}
			overwrite(boxes[i], point(99))
		}
		overwrite(got.l, api.Segment{T: 99})
		overwrite(got.items, api.Item{Id: 99})
		if !slices.Equal(x[:cap(x)], x0) || !slices.Equal(p.L[:cap(p.L)], in) || !slices.Equal(p.Out[:cap(p.Out)], out) || p.N != len(x) {
			t.Errorf("the arguments for %q are %v, %v", y.text, p, x)
		}
		checkRoomyFlow(t, l)
	}
}

// checkRoomyFlow checks that a flow is as roomyFlow makes it of the uneven flow.
func checkRoomyFlow(t *testing.T, l []api.Segment) {
	t.Helper()
	if !equalFlows(l, uneven()) || !equalFlows(l[:cap(l)][4:5], rising(77, 1)) {
		t.Errorf("the flow is %v", l[:cap(l)])
	}
	for i := range l {
		for _, b := range fields(&l[i]) {
			if behind := (*b)[2:4]; !slices.Equal(behind, of(point(77), point(78))) {
				t.Errorf("the room behind a box is %v", behind)
			}
		}
	}
}
