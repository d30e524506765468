package guard

import (
	"slices"
	"testing"

	"armillary/api"
)

// Tests of P2: results depend on the arguments only, and these are not modified.

// results are those of all functions.
type results struct {
	valid          bool
	value          api.Interval
	side, crossing int
	reversed       api.Guard
}

func call(g api.Guard, s api.Segment) results {
	return results{Valid(g, len(s.Tube)), Eval(g, s.Tube, point(s.T)), Side(g, s.Tube, point(s.T)), Crossing(g, s), Reverse(g)}
}

func equalResults(a, b results) bool {
	return a.valid == b.valid && a.value == b.value && a.side == b.side && a.crossing == b.crossing && equalGuards(a.reversed, b.reversed)
}

// TestResultsDependOnArgumentsOnly calls the functions again after other calls.
func TestResultsDependOnArgumentsOnly(t *testing.T) {
	g, s := guardOf(t, "-(x*v)+t", 1), segment(of(whole(-3, 3), whole(1, 2)), of(whole(2, 3), whole(1, 2)), of(whole(-3, -2), whole(1, 1)))
	first := call(g, s)
	call(guardOf(t, "--sqrt(x)", 0), line(whole(-1, 5), whole(0, 1), whole(5, 5)))
	call(guardOf(t, "1/t", -1), line(whole(0, 0), whole(0, 0), whole(0, 0)))
	call(api.Guard{}, api.Segment{})
	if second := call(g, s); !equalResults(first, second) || !first.valid || first.crossing != 2 {
		t.Errorf("first %v, then %v", first, second)
	}
}

// roomy returns a slice with room behind it.
func roomy[T any](l []T, behind ...T) []T {
	return append(slices.Clip(slices.Clone(l)), behind...)[:len(l)]
}

// overwrite changes all elements of a slice, and the room behind them.
func overwrite[T any](l []T, by T) {
	l = l[:cap(l)]
	for i := range l {
		l[i] = by
	}
}

// fields returns the boxes of a segment, to be changed.
func fields(s *api.Segment) []*[]api.Interval {
	return []*[]api.Interval{&s.From, &s.Pre, &s.Tube, &s.To}
}

// TestArgumentsStay calls all functions, and overwrites the guard that Reverse returns,
// with all the room behind it: neither the arguments nor the room behind them may change.
func TestArgumentsStay(t *testing.T) {
	for _, text := range []string{"x", "-x", "--x", "---(x-v)", "x*v-t", "sqr(x)-sqrt(v)", "-t", "t/x", "5"} {
		for dir := -1; dir <= 1; dir++ {
			g := guardOf(t, text, dir)
			g.F = roomy(g.F, api.Node{Op: 77}, api.Node{Op: 78})
			s := segment(of(whole(0, 4), whole(-2, 1)), of(whole(0, 1), whole(1, 1)), of(whole(3, 4), whole(-2, -1)))
			want := s
			for _, b := range fields(&s) {
				*b = roomy(*b, point(77), point(78))
			}
			got := call(g, s)
			overwrite(got.reversed.F, api.Node{Op: 99})
			if expected := call(guardOf(t, text, dir), want); got.valid != expected.valid || got.value != expected.value || got.crossing != expected.crossing {
				t.Errorf("the results for %q are %v, want %v", text, got, expected)
			}
			if kept := slices.Concat(parse(t, text), []api.Node{{Op: 77}, {Op: 78}}); !slices.Equal(g.F[:len(kept)], kept) || g.Dir != dir {
				t.Errorf("the guard %q is %v, %v", text, g, g.F[:cap(g.F)])
			}
			for i, b := range fields(&s) {
				if kept := append(slices.Clone(*fields(&want)[i]), point(77), point(78)); !slices.Equal((*b)[:4], kept) || s.T != want.T || s.H != want.H {
					t.Errorf("the segment for %q is %v", text, s)
				}
			}
		}
	}
}

// TestReverseStays changes a guard that was reversed: what Reverse returned must not
// change with it.
func TestReverseStays(t *testing.T) {
	for _, text := range []string{"x", "-x", "--x", "-(x-v)", "t-1"} {
		g := guardOf(t, text, 1)
		r, want := Reverse(g), wantReverse(guardOf(t, text, 1))
		overwrite(g.F, api.Node{Op: 99})
		if !equalGuards(r, want) {
			t.Errorf("the reverse of %q becomes %v", text, r)
		}
	}
}
