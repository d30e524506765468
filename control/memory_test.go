package control

import (
	"slices"
	"testing"

	"armillary/api"
)

// Tests of P2: results depend on the arguments only, and these are not modified.

// results are those of all functions.
type results struct {
	valid, accepted           bool
	initial, shrunk, grown    int64
	s                         api.Segment
	next                      int64
	shrinkError, advanceError api.Errno
}

func call(p api.Tape, x []api.Interval, w api.StepRequest, s api.Segment) results {
	r := results{valid: Valid(w.Ctrl), accepted: Accept(w.Ctrl, s), initial: Initial(w.Ctrl, w.Last-w.T), grown: Grow(w.Ctrl, w.H)}
	r.shrunk, r.shrinkError = Shrink(w.Ctrl, w.H)
	r.s, r.next, r.advanceError = Advance(p, x, w)
	return r
}

func equalResults(a, b results) bool {
	equal := equalSegments(a.s, b.s)
	return equal && a.valid == b.valid && a.accepted == b.accepted && a.initial == b.initial && a.shrunk == b.shrunk && a.grown == b.grown && a.next == b.next && a.shrinkError == b.shrinkError && a.advanceError == b.advanceError
}

// TestResultsDependOnArgumentsOnly calls the functions again after other calls.
func TestResultsDependOnArgumentsOnly(t *testing.T) {
	p, x, w := compiled(t, "x'=v+t\nv'=-x*sqr(t)"), of(point(one), point(5)), ask(usual(), -one, one, one)
	s := api.Segment{To: x, Tube: x}
	first := call(p, x, w, s)
	call(compiled(t, "x'=sqr(x)"), of(whole(99, 99)), ask(sized(1, 1, 1), 0, one, one), api.Segment{To: of(entire)})
	call(every(), of(whole(4, 5), whole(1, 2)), ask(limited(1, largest), 0, largest, largest), first.s)
	if second := call(p, x, w, s); !equalResults(first, second) || first.advanceError != api.OK || !first.accepted {
		t.Errorf("first %v, then %v", first, second)
	}
}

// roomy returns a slice with room behind it.
func roomy[T any](l []T, behind ...T) []T {
	return append(slices.Clip(slices.Clone(l)), behind...)[:len(l)]
}

// overwrite changes all elements of a slice, and the room behind them.
func overwrite[T any](l []T, by T) {
	l = l[:cap(l)]
	for i := range l {
		l[i] = by
	}
}

// boxesOf returns the boxes of a segment.
func boxesOf(s api.Segment) [][]api.Interval {
	return [][]api.Interval{s.From, s.Pre, s.Tube, s.To}
}

// TestArgumentsStay overwrites the results, with all the room behind them: neither the
// arguments, the room behind them nor the other parts of a result may change.
func TestArgumentsStay(t *testing.T) {
	count := census{}
	for _, y := range []struct {
		text string
		x    []api.Interval
		w    api.StepRequest
	}{
		{"x'=0", of(between(3, 7)), ask(usual(), 0, one, one)},
		{"x'=1", of(point(0)), ask(usual(), -one, one, one)},
		{"x'=x", of(whole(1, 1)), ask(usual(), 0, one, one)},
		{"x'=x", of(whole(1, 1)), ask(limited(1024, 5), 0, one, one)},
		{"x'=1/x", of(whole(-1, 1)), ask(usual(), 0, one, one)},
		{"x'=v\nv'=-x", of(point(0), point(one)), ask(usual(), 0, one, one/4)},
	} {
		p, x := compiled(t, y.text), roomy(y.x, point(77), point(78))
		p.L, p.Out = roomy(p.L, do(api.Time), do(api.Time)), roomy(p.Out, 77, 78)
		x0, l, out := slices.Clone(x[:cap(x)]), slices.Clone(p.L[:cap(p.L)]), slices.Clone(p.Out[:cap(p.Out)])
		judged := api.Segment{From: x, Pre: x, Tube: x, To: x}
		want := call(compiled(t, y.text), y.x, y.w, judged)
		got := call(p, x, y.w, judged)
		if !equalResults(got, want) {
			t.Errorf("the results for %q are %v, want %v", y.text, got, want)
		}
		boxes, left := boxesOf(got.s), boxesOf(want.s)
		for i := range boxes {
			if !slices.EqualFunc(boxes[i:], left[i:], slices.Equal) {
				t.Errorf("the other boxes for %q are %v, want %v", y.text, boxes[i:], left[i:])
			}
			overwrite(boxes[i], point(99))
		}
		if !slices.Equal(x[:cap(x)], x0) || !slices.Equal(p.L[:cap(p.L)], l) || !slices.Equal(p.Out[:cap(p.Out)], out) || p.N != len(x) {
			t.Errorf("the arguments for %q are %v, %v", y.text, p, x)
		}
		count[got.advanceError.Error()]++
	}
	count.check(t, 2, api.OK.Error(), api.ErrStep.Error())
}
