package flow

import (
	"math/rand"
	"slices"
	"testing"

	"armillary/api"
	"armillary/control"
)

// References for P14.1, word by word, and random arguments to compare them with.

// census counts what occurs in random arguments.
type census map[string]int

// add counts the kinds that are true.
func (c census) add(kinds map[string]bool) {
	for kind, ok := range kinds {
		if ok {
			c[kind]++
		}
	}
}

// check checks that all kinds occur as often as needed.
func (c census) check(t *testing.T, needed int, kinds ...string) {
	t.Helper()
	for _, kind := range kinds {
		if c[kind] < needed {
			t.Errorf("%d times %s, %v: these tests miss something", c[kind], kind, c)
		}
	}
}

// wanted is what Integrate returns, and how many steps it performs before it ends.
type wanted struct {
	l     []api.Segment
	err   api.Errno
	steps int
}

// wantIntegrate returns the result of Integrate for the steps that advance returns.
func wantIntegrate(x []api.Interval, w api.Horizon, advance func(x []api.Interval, r api.StepRequest) (api.Segment, int64, api.Errno)) wanted {
	isNumber := func(x int64) bool { return x > -1<<31 && x < 1<<31 }
	if !control.Valid(w.Ctrl) || !isNumber(w.T) || !isNumber(w.Last) || w.T >= w.Last {
		return wanted{err: api.ErrArg}
	}
	var l []api.Segment
	t, b, h := w.T, x, control.Initial(w.Ctrl, w.Last-w.T)
	for t < w.Last {
		s, next, err := advance(b, api.StepRequest{Ctrl: w.Ctrl, T: t, Last: w.Last, H: h})
		if err != api.OK {
			return wanted{err: err, steps: len(l)}
		}
		if len(l) == 256 {
			return wanted{err: api.ErrBudget, steps: len(l)}
		}
		l = append(l, s)
		t, b, h = s.T+s.H, s.To, next
	}
	return wanted{l, api.OK, len(l)}
}

// upTo returns a positive number that has any number of bits up to the given one.
func upTo(source *rand.Rand, bits int) int64 { return 1 + source.Int63n(1<<(1+source.Intn(bits))-1) }

// randomControl returns valid parameters whose first size is at most the given one.
func randomControl(source *rand.Rand, first int64) api.StepControl {
	c := api.StepControl{Order: 1 + source.Intn(7), First: first, Most: first, Wide: largest}
	c.First = max(c.First>>source.Intn(4), 1)
	c.Least = max(c.First>>source.Intn(12), 1)
	if source.Intn(2) == 0 {
		c.Most = min(first<<source.Intn(4), largest)
	}
	if source.Intn(2) == 0 {
		c.Wide = upTo(source, 17)
	}
	return c
}

// randomHorizon returns a valid horizon: for which a few steps are enough mostly, but
// sometimes hundreds of them are not.
func randomHorizon(source *rand.Rand) api.Horizon {
	left := upTo(source, 17)
	first := max(left>>source.Intn(6), 1)
	if source.Intn(6) == 0 {
		first = max(left>>(7+source.Intn(2)), 1)
	}
	if source.Intn(20) == 0 {
		left = min(left+upTo(source, 31), largest)
	}
	start := source.Int63n(2*largest-left+1) - largest
	switch source.Intn(8) {
	case 0:
		start = -largest
	case 1:
		start = largest - left
	case 2, 3, 4, 5:
		start = min(start%(4*one), largest-left)
	}
	return during(randomControl(source, first), start, start+left)
}

// randomInterval returns a valid interval: mostly a narrow one of small numbers.
func randomInterval(source *rand.Rand) api.Interval {
	x := source.Int63n(8*one) - 4*one
	switch source.Intn(40) {
	case 0:
		return entire
	case 1:
		bound := upTo(source, 31)
		x, y := source.Int63n(2*bound-1)-bound+1, source.Int63n(2*bound-1)-bound+1
		return between(min(x, y), max(x, y))
	case 2, 3, 4, 5:
		return point(x)
	}
	return between(x, x+source.Int63n(int64(1)<<source.Intn(14)))
}

// randomBox returns a box of n intervals.
func randomBox(source *rand.Rand, n int) []api.Interval {
	var l []api.Interval
	for range n {
		l = append(l, randomInterval(source))
	}
	return l
}

// anyTape returns a valid tape of dimension n with the given number of instructions, of
// all kinds.
func anyTape(source *rand.Rand, n, length int) api.Tape {
	c := api.Tape{N: n}
	for i := range length {
		in := []api.Instruction{{Op: api.Num, C: randomInterval(source)}, {Op: api.Var, A: source.Intn(n)}, {Op: api.Var, A: source.Intn(n)}, {Op: api.Time}}[source.Intn(4)]
		if i > 0 && source.Intn(5) > 1 {
			in = api.Instruction{Op: []int{api.Neg, api.Sqr, api.Sqrt, api.Add, api.Add, api.Sub, api.Sub, api.Mul, api.Mul, api.Div}[source.Intn(10)], A: source.Intn(i)}
		}
		if in.Op >= api.Add {
			in.B = source.Intn(i)
		}
		c.L = append(c.L, in)
	}
	for range n {
		c.Out = append(c.Out, max(source.Intn(length), source.Intn(length)))
	}
	return c
}

// randomTape returns a valid tape: with all kinds of instructions, or each of whose
// expressions is a multiple of a state variable, plus a constant.
func randomTape(source *rand.Rand) api.Tape {
	if source.Intn(3) > 0 {
		return anyTape(source, 1+source.Intn(api.MaxDim), 1+source.Intn(12))
	}
	c := api.Tape{N: 1 + source.Intn(api.MaxDim)}
	for range c.N {
		i := len(c.L)
		c.L = append(c.L,
			api.Instruction{Op: api.Num, C: point(source.Int63n(4*one) - 2*one)}, api.Instruction{Op: api.Var, A: source.Intn(c.N)}, api.Instruction{Op: api.Mul, A: i, B: i + 1},
			api.Instruction{Op: api.Num, C: point(source.Int63n(one) - one/2)}, api.Instruction{Op: api.Add, A: i + 2, B: i + 3})
		c.Out = append(c.Out, i+4)
	}
	return c
}

// isShrunk reports whether a segment is shorter than it would be with steps that are
// accurate enough.
func isShrunk(l []api.Segment, w api.Horizon) bool {
	h := w.Ctrl.First
	for _, s := range l {
		if s.H < min(h, w.Last-s.T) {
			return true
		}
		h = min(2*h, w.Ctrl.Most)
	}
	return false
}

// countHorizon counts what a horizon is like, and what comes of it.
func (c census) countHorizon(w api.Horizon, want wanted) {
	c.add(map[string]bool{
		"at a negative time": w.T < 0, "at the least time": w.T == -largest, "until the greatest time": w.Last == largest,
		"the first step fails": want.err == api.ErrStep && want.steps == 0, "a later step fails": want.err == api.ErrStep && want.steps > 0, "too many": want.err == api.ErrBudget, "wrong": want.err == api.ErrArg,
		"one step": len(want.l) == 1, "several steps": len(want.l) > 1 && len(want.l) < 100, "many steps": len(want.l) >= 100, "shrunk": isShrunk(want.l, w),
	})
}

func TestRandomHorizons(t *testing.T) {
	source, count := rand.New(rand.NewSource(1)), census{}
	for range 4000 {
		p, w := randomTape(source), randomHorizon(source)
		x := randomBox(source, p.N)
		if source.Intn(10) == 0 {
			*[]*int64{&w.T, &w.Last, &w.Ctrl.Least, &w.Ctrl.First, &w.Ctrl.Most, &w.Ctrl.Wide}[source.Intn(6)] = []int64{0, -1, api.Max, -api.Max, -largest, w.T, w.Last}[source.Intn(7)]
			// A longer time is not specified, unless it is not valid at all.
			w.Last = min(w.Last, max(w.T, -api.Max)+largest)
		}
		want := wantIntegrate(x, w, func(x []api.Interval, r api.StepRequest) (api.Segment, int64, api.Errno) {
			return control.Advance(p, x, r)
		})
		l, err := Integrate(p, x, w)
		if !equalFlows(l, want.l) || err != want.err {
			t.Fatalf("Integrate(%v, %v, %v) = %v, %v, want %v", p, x, w, l, err, want)
		}
		count.countHorizon(w, want)
	}
	count.check(t, 40, "at a negative time", "at the least time", "until the greatest time", "the first step fails", "a later step fails", "too many", "wrong", "one step", "several steps", "many steps", "shrunk")
}

// constant returns the tape of a system whose derivatives are in the box slopes, in
// integers.
func constant(slopes []api.Interval) api.Tape {
	p := api.Tape{N: len(slopes)}
	for i, a := range slopes {
		p.L, p.Out = append(p.L, api.Instruction{Op: api.Num, C: whole(a.Lo, a.Hi)}), append(p.Out, i)
	}
	return p
}

// TestConstantDerivatives has systems whose steps are known: a reference that does not
// call package control for them.
func TestConstantDerivatives(t *testing.T) {
	source, count := rand.New(rand.NewSource(2)), census{}
	for range 4000 {
		w := randomHorizon(source)
		var x, slopes []api.Interval
		for range 1 + source.Intn(api.MaxDim) {
			slope, start := source.Int63n(9)-4, source.Int63n(1<<26)-1<<25
			slopes = append(slopes, between(slope, slope+source.Int63n(2)*source.Int63n(2)))
			x = append(x, between(start, start+upTo(source, 8)-1))
		}
		// Their boxes are in range for so long.
		w.Last = min(w.Last, w.T+1<<24)
		want := wantIntegrate(x, w, func(x []api.Interval, r api.StepRequest) (api.Segment, int64, api.Errno) {
			first := min(r.H, r.Last-r.T)
			for h := first; h == first || h >= w.Ctrl.Least; h /= 2 {
				s := lines(r.T, x, slopes, h)[0]
				if slices.ContainsFunc(s.Tube, func(a api.Interval) bool { return a.Hi-a.Lo > w.Ctrl.Wide }) {
					continue
				}
				if h == first {
					h = r.H
				}
				return s, min(2*h, w.Ctrl.Most), api.OK
			}
			return api.Segment{}, 0, api.ErrStep
		})
		l, err := Integrate(constant(slopes), x, w)
		if !equalFlows(l, want.l) || err != want.err {
			t.Fatalf("Integrate for %v, %v, %v = %v, %v, want %v", slopes, x, w, l, err, want)
		}
		count.countHorizon(w, want)
	}
	count.check(t, 40, "at a negative time", "at the least time", "until the greatest time", "the first step fails", "a later step fails", "too many", "one step", "several steps", "many steps", "shrunk")
}

// randomFlow returns a valid flow, with any boxes.
func randomFlow(source *rand.Rand) []api.Segment {
	var l []api.Segment
	n, count, most := 1+source.Intn(api.MaxDim), 1+source.Intn(10), int64(20)
	switch source.Intn(20) {
	case 0:
		count = 256 - source.Intn(2)
	case 1:
		most = 2 * largest / 10
	}
	start := []int64{0, source.Int63n(100) - 99, source.Int63n(2*largest) - largest, -largest}[source.Intn(4)]
	for start < largest && count > 0 {
		h := min(1+source.Int63n(1+source.Int63n(most)), largest-start)
		l = append(l, api.Segment{T: start, H: h, From: randomBox(source, n), Pre: randomBox(source, n), Tube: randomBox(source, n), To: randomBox(source, n)})
		start, count = start+h, count-1
	}
	return l
}

// wantValid is the definition of a valid flow.
func wantValid(l []api.Segment) bool {
	ok := len(l) >= 1 && len(l) <= 256
	for i, s := range l {
		for _, x := range []int64{s.T, s.H, s.T + s.H} {
			ok = ok && x > -1<<31 && x < 1<<31
		}
		ok = ok && s.H >= 1 && (i == 0 || s.T == l[i-1].T+l[i-1].H)
		for _, b := range [][]api.Interval{s.From, s.Pre, s.Tube, s.To} {
			ok = ok && len(b) >= 1 && len(b) <= 6 && len(b) == len(l[0].From)
			for _, a := range b {
				bounded := a.Lo > -1<<31 && a.Lo <= a.Hi && a.Hi < 1<<31
				ok = ok && (bounded || a == entire)
			}
		}
	}
	return ok
}

// spoil changes something in a flow, which is valid in most cases no longer.
func spoil(source *rand.Rand, l []api.Segment) []api.Segment {
	s := &l[source.Intn(len(l))]
	b := fields(s)[source.Intn(4)]
	a := &(*b)[source.Intn(len(*b))]
	odd := oddNumbers()
	switch source.Intn(10) {
	case 0:
		return l[1:]
	case 1:
		return append(l, flat(1, l[0].From)...)
	case 2:
		return append(l, randomFlow(source)...)
	case 3:
		s.T += source.Int63n(3) - 1
	case 4:
		s.H += source.Int63n(3) - 1
	case 5:
		s.T = odd[source.Intn(len(odd))]
	case 6:
		s.H = odd[source.Intn(len(odd))]
	case 7:
		*b = randomBox(source, source.Intn(8))
	case 8:
		a.Lo = odd[source.Intn(len(odd))]
	case 9:
		a.Hi = odd[source.Intn(len(odd))]
	}
	return l
}

func TestRandomFlows(t *testing.T) {
	source, count := rand.New(rand.NewSource(3)), census{}
	for range 20000 {
		l := randomFlow(source)
		if !Valid(l) || !wantValid(l) {
			t.Fatalf("%v is not valid", l)
		}
		l = spoil(source, l)
		want := wantValid(l)
		if got := Valid(l); got != want {
			t.Fatalf("Valid(%v) = %v", l, got)
		}
		count.add(map[string]bool{"valid": want, "not valid": !want, "many segments": want && len(l) > 200, "too many segments": len(l) > 256})
	}
	count.check(t, 20, "valid", "not valid", "many segments", "too many segments")
}

// wantAt is the definition of the box at a time.
func wantAt(l []api.Segment, t int64) ([]api.Interval, bool) {
	for _, s := range l {
		if s.T == t {
			return s.From, true
		}
	}
	if len(l) > 0 && l[len(l)-1].T+l[len(l)-1].H == t {
		return l[len(l)-1].To, true
	}
	for _, s := range l {
		if s.T <= t && t <= s.T+s.H {
			return s.Tube, true
		}
	}
	return nil, false
}

// wantDuring is the definition of the box in an interval.
func wantDuring(l []api.Segment, t api.Interval) ([]api.Interval, bool) {
	var hull []api.Interval
	found := false
	for _, s := range l {
		if max(s.T, t.Lo) > min(s.T+s.H, t.Hi) {
			continue
		}
		if !found {
			hull, found = slices.Clone(s.Tube), true
		}
		for i, a := range s.Tube {
			hull[i] = between(min(hull[i].Lo, a.Lo), max(hull[i].Hi, a.Hi))
		}
	}
	return hull, found
}

// randomTime returns a time in a flow or close to it, often a boundary.
func randomTime(source *rand.Rand, l []api.Segment) int64 {
	if source.Intn(20) == 0 {
		return source.Int63n(2*largest+1) - largest
	}
	s := l[source.Intn(len(l))]
	t := []int64{s.T, s.T + s.H, s.T + source.Int63n(s.H+1), s.T + source.Int63n(5) - 2}[source.Intn(4)]
	return max(min(t, largest), -largest)
}

// randomTimes returns an interval of times, in a flow or close to it.
func randomTimes(source *rand.Rand, l []api.Segment) api.Interval {
	a, b := randomTime(source, l), randomTime(source, l)
	switch source.Intn(20) {
	case 0:
		return entire
	case 1:
		return between(-largest, a)
	case 2:
		return between(a, largest)
	case 3, 4, 5:
		return point(a)
	}
	return between(min(a, b), max(a, b))
}

func TestRandomQueries(t *testing.T) {
	source, count := rand.New(rand.NewSource(4)), census{}
	for range 4000 {
		l := randomFlow(source)
		last := l[len(l)-1]
		if to, at, ok := End(l); !slices.Equal(to, last.To) || at != last.T+last.H || !ok {
			t.Fatalf("End(%v) = %v, %d, %v", l, to, at, ok)
		}
		items := Items(source.Intn(9), l)
		if len(items) != len(l) {
			t.Fatalf("Items(%v) = %v", l, items)
		}
		for i, s := range l {
			if want := (api.Item{Id: items[0].Id, T: between(s.T, s.T+s.H), Box: s.Tube}); !equalItems(items[i], want) {
				t.Fatalf("Items(%v) = %v", l, items)
			}
		}
		for range 20 {
			at, in := randomTime(source, l), randomTimes(source, l)
			want, is := wantAt(l, at)
			if got, ok := At(l, at); !slices.Equal(got, want) || ok != is {
				t.Fatalf("At(%v, %d) = %v, %v, want %v", l, at, got, ok, want)
			}
			want, lies := wantDuring(l, in)
			if got, ok := During(l, in); !slices.Equal(got, want) || ok != lies {
				t.Fatalf("During(%v, %v) = %v, %v, want %v", l, in, got, ok, want)
			}
			single, _ := wantDuring(l, point(in.Lo))
			count.add(map[string]bool{
				"before the start": at < l[0].T, "at the start": at == l[0].T, "at the end": at == last.T+last.H, "after the end": at > last.T+last.H, "in between": is,
				"in no segment": !lies, "at a point": lies && in.Lo == in.Hi, "in several segments": single != nil && !slices.Equal(want, single), "from before the start": lies && in.Lo < l[0].T, "until after the end": lies && in.Hi > last.T+last.H,
			})
		}
	}
	count.check(t, 1000, "before the start", "at the start", "at the end", "after the end", "in between", "in no segment", "at a point", "in several segments", "from before the start", "until after the end")
}
