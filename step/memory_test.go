package step

import (
	"slices"
	"testing"

	"armillary/api"
)

// Tests of P2: results depend on the arguments only, and these are not modified.

// results are those of all functions for one tape.
type results struct {
	rest, at, ranges  []api.Interval
	s, modelSegment   api.Segment
	from, models      []api.TaylorModel
	found, foundModel bool
}

func call(c api.Tape, x, b []api.Interval, m []api.TaylorModel, g api.TimeStep, order int) results {
	var r results
	r.rest = Remainder(c, b, g, order)
	r.at = EnclosureAt(c, x, b, during(g, between(g.H/2, g.H), order))
	r.ranges = Ranges(m)
	r.from = FromBox(x)
	r.s, r.found = IntervalStep(c, x, g, order)
	r.models, r.modelSegment, r.foundModel = ModelStep(c, m, g, api.Expansion{Order: order, Deg: 3})
	return r
}

func equalResults(a, b results) bool {
	return slices.Equal(a.rest, b.rest) && slices.Equal(a.at, b.at) && slices.Equal(a.ranges, b.ranges) && equalSegments(a.s, b.s) && equalSegments(a.modelSegment, b.modelSegment) && equalModels(a.from, b.from) && equalModels(a.models, b.models) && a.found == b.found && a.foundModel == b.foundModel
}

// TestResultsDependOnArgumentsOnly calls the functions again after other calls.
func TestResultsDependOnArgumentsOnly(t *testing.T) {
	c, x, b, g := compiled(t, "x'=v+t\nv'=-x*sqr(t)"), of(whole(1, 2), point(5)), of(whole(0, 5), whole(-2, 9)), at(-one, one/4)
	m := all(model(between(-1, 1), term(one, 1)), exact(term(one), term(one, 0, 3)))
	first := call(c, x, b, m, g, 4)
	call(every(), of(whole(4, 5), whole(1, 2)), b, FromBox(of(whole(4, 5), whole(1, 2))), at(0, one/16), 7)
	call(compiled(t, "x'=sqr(x)"), of(whole(99, 99)), of(entire), all(unbounded()), at(0, one), 0)
	if second := call(c, x, b, m, g, 4); !equalResults(first, second) || !first.found || !first.foundModel {
		t.Errorf("first %v, then %v", first, second)
	}
}

// overwrite changes all elements of a slice, and the room behind them.
func overwrite[T any](l []T, by T) {
	l = l[:cap(l)]
	for i := range l {
		l[i] = by
	}
}

// roomy returns a slice with room behind it.
func roomy[T any](l []T, behind ...T) []T {
	return append(slices.Clip(slices.Clone(l)), behind...)[:len(l)]
}

// boxesOf returns the boxes of a segment.
func boxesOf(s api.Segment) [][]api.Interval {
	return [][]api.Interval{s.From, s.Pre, s.Tube, s.To}
}

// TestArgumentsStay overwrites the results, with all the room behind them: neither the
// arguments, the room behind them nor the other parts of a result may change.
func TestArgumentsStay(t *testing.T) {
	for _, y := range []struct {
		text string
		x    []api.Interval
		g    api.TimeStep
	}{
		{"x'=0", of(between(3, 7)), at(0, one)},
		{"x'=1", of(point(0)), at(-one, one)},
		{"x'=x", of(whole(1, 1)), at(0, one/4)},
		{"x'=x", of(whole(1, 1)), at(0, one)},
		{"x'=1/x", of(whole(-1, 1)), at(0, 1)},
		{"x'=sqrt(sqr(x))", of(whole(-1, 1)), at(0, one/8)},
		{"x'=v\nv'=-x", of(point(0), whole(1, 2)), at(0, one/4)},
	} {
		for _, order := range []int{0, 1, 5} {
			c, x, b := compiled(t, y.text), roomy(y.x, point(77), point(78)), roomy(slices.Repeat(of(whole(-3, 3)), len(y.x)), point(79), point(80))
			m := roomy(FromBox(y.x), unbounded(), unbounded())
			var terms [][]api.Term
			for i := range m {
				m[i].P = roomy(m[i].P, term(5), term(6))
				terms = append(terms, slices.Clone(m[i].P[:cap(m[i].P)]))
			}
			x0, b0, m0 := slices.Clone(x[:cap(x)]), slices.Clone(b[:cap(b)]), slices.Clone(m[:cap(m)])
			l, out := slices.Clone(c.L), slices.Clone(c.Out)
			want := call(c, slices.Clone(y.x), b, FromBox(y.x), y.g, order)

			got := call(c, x, b, m, y.g, order)
			boxes := append([][]api.Interval{got.rest, got.at, got.ranges}, append(boxesOf(got.s), boxesOf(got.modelSegment)...)...)
			left := append([][]api.Interval{want.rest, want.at, want.ranges}, append(boxesOf(want.s), boxesOf(want.modelSegment)...)...)
			for i := range boxes {
				if !slices.EqualFunc(boxes[i:], left[i:], slices.Equal) || !equalModels(got.models, want.models) {
					t.Errorf("the other results for %q are %v, want %v", y.text, boxes[i:], left[i:])
				}
				overwrite(boxes[i], point(99))
			}
			models, leftModels := append(got.from, got.models...), append(want.from, want.models...)
			for i := range models {
				if !equalModels(models[i:], leftModels[i:]) {
					t.Errorf("the other models for %q are %v, want %v", y.text, models[i:], leftModels[i:])
				}
				overwrite(models[i].P, term(99, 2))
			}
			overwrite(models, unbounded())

			for i := range m {
				if !slices.Equal(m[i].P[:cap(m[i].P)], terms[i]) {
					t.Errorf("the terms for %q are %v", y.text, m[i].P[:cap(m[i].P)])
				}
			}
			if !slices.Equal(x[:cap(x)], x0) || !slices.Equal(b[:cap(b)], b0) || !equalModels(m[:cap(m)], m0) || !slices.Equal(c.L, l) || !slices.Equal(c.Out, out) || c.N != len(x) {
				t.Errorf("the arguments for %q are %v, %v, %v, %v", y.text, c, x, b, m)
			}
		}
	}
}
