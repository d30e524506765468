package control

import (
	"math/rand"
	"testing"

	"armillary/api"
	"armillary/step"
)

// A reference for P13.1, word by word, and random arguments to compare it with.

// sizes returns the candidates of a request, in their order.
func sizes(w api.StepRequest) []int64 {
	first := w.H
	if left := w.Last - w.T; left < first {
		first = left
	}
	l := []int64{first}
	for {
		last := l[len(l)-1]
		next := (last - last%2) / 2
		if next < w.Ctrl.Least {
			return l
		}
		l = append(l, next)
	}
}

// tooWide reports whether an interval of a box is wider than a limit.
func tooWide(b []api.Interval, limit int64) bool {
	for _, a := range b {
		if a.Hi > a.Lo+limit {
			return true
		}
	}
	return false
}

// wanted is what Advance returns, and why.
type wanted struct {
	s    api.Segment
	next int64
	err  api.Errno
	// accepted is the number of candidates before the one that is accepted.
	accepted, failed, tooWide int
}

// wantAdvance returns the result of Advance for the steps that step returns.
func wantAdvance(w api.StepRequest, step func(h int64) (api.Segment, bool)) wanted {
	var want wanted
	for i, h := range sizes(w) {
		s, ok := step(h)
		if !ok {
			want.failed++
			continue
		}
		if tooWide(s.To, w.Ctrl.Wide) || tooWide(s.Tube, w.Ctrl.Wide) {
			want.tooWide++
			continue
		}
		want.s, want.accepted, want.next = s, i, 2*h
		if i == 0 {
			want.next = 2 * w.H
		}
		if want.next > w.Ctrl.Most {
			want.next = w.Ctrl.Most
		}
		return want
	}
	want.err = api.ErrStep
	return want
}

// stepper returns a function that performs the steps that a request asks for.
func stepper(p api.Tape, x []api.Interval, w api.StepRequest) func(h int64) (api.Segment, bool) {
	return func(h int64) (api.Segment, bool) {
		return step.IntervalStep(p, x, api.TimeStep{T: w.T, H: h}, w.Ctrl.Order)
	}
}

// upTo returns a positive number that has any number of bits up to the given one.
func upTo(source *rand.Rand, bits int) int64 { return 1 + source.Int63n(1<<(1+source.Intn(bits))-1) }

// randomControl returns valid parameters.
func randomControl(source *rand.Rand) api.StepControl {
	c := api.StepControl{Order: 1 + source.Intn(7), Most: upTo(source, 31), Wide: upTo(source, 20)}
	if source.Intn(20) == 0 {
		c.Most, c.Wide = largest, largest
	}
	c.First = min(upTo(source, 31), c.Most)
	c.Least = min(upTo(source, 31), c.First)
	if source.Intn(3) > 0 {
		c.Least = min(c.Least, upTo(source, 8))
	}
	return c
}

// randomRequest returns a valid request: mostly for short times.
func randomRequest(source *rand.Rand) api.StepRequest {
	left := min(upTo(source, 18), largest)
	if source.Intn(10) == 0 {
		left = min(upTo(source, 31), largest)
	}
	start := source.Int63n(2*largest-left+1) - largest
	switch source.Intn(8) {
	case 0:
		start = -largest
	case 1:
		start = largest - left
	case 2, 3, 4, 5:
		start = min(start%(4*one), largest-left)
	}
	h := min(upTo(source, 18), largest)
	switch source.Intn(10) {
	case 0:
		h = min(upTo(source, 31), largest)
	case 1:
		h = left
	case 2:
		h = max(left-1, 1)
	case 3:
		h = min(left+1, largest)
	}
	return ask(randomControl(source), start, start+left, h)
}

// randomInterval returns a valid interval: mostly a narrow one of small numbers.
func randomInterval(source *rand.Rand) api.Interval {
	x := source.Int63n(8*one) - 4*one
	switch source.Intn(40) {
	case 0:
		return entire
	case 1:
		bound := upTo(source, 31)
		x, y := source.Int63n(2*bound-1)-bound+1, source.Int63n(2*bound-1)-bound+1
		return between(min(x, y), max(x, y))
	case 2, 3, 4, 5:
		return point(x)
	}
	return between(x, x+source.Int63n(int64(1)<<source.Intn(14)))
}

// randomBox returns a box of n intervals.
func randomBox(source *rand.Rand, n int) []api.Interval {
	var l []api.Interval
	for range n {
		l = append(l, randomInterval(source))
	}
	return l
}

// anyTape returns a valid tape of dimension n with at most the given number of
// instructions, of all kinds.
func anyTape(source *rand.Rand, n, length int) api.Tape {
	c := api.Tape{N: n}
	for i := range length {
		in := []api.Instruction{value(randomInterval(source)), do(api.Var, source.Intn(n)), do(api.Var, source.Intn(n)), do(api.Time)}[source.Intn(4)]
		if i > 0 && source.Intn(5) > 1 {
			in = do([]int{api.Neg, api.Sqr, api.Sqrt, api.Add, api.Add, api.Sub, api.Sub, api.Mul, api.Mul, api.Div}[source.Intn(10)], source.Intn(i))
		}
		if in.Op >= api.Add {
			in.B = source.Intn(i)
		}
		c.L = append(c.L, in)
	}
	for range n {
		c.Out = append(c.Out, max(source.Intn(length), source.Intn(length)))
	}
	return c
}

// randomTape returns a valid tape: with all kinds of instructions, or each of whose
// expressions is a multiple of a state variable, plus a constant.
func randomTape(source *rand.Rand) api.Tape {
	if source.Intn(3) > 0 {
		return anyTape(source, 1+source.Intn(api.MaxDim), 1+source.Intn(12))
	}
	c := api.Tape{N: 1 + source.Intn(api.MaxDim)}
	for range c.N {
		i := len(c.L)
		c.L = append(c.L,
			value(point(source.Int63n(4*one)-2*one)), do(api.Var, source.Intn(c.N)), do(api.Mul, i, i+1),
			value(point(source.Int63n(one)-one/2)), do(api.Add, i+2, i+3))
		c.Out = append(c.Out, i+4)
	}
	return c
}

// census counts what occurs in random arguments.
type census map[string]int

// check checks that all kinds occur as often as needed.
func (c census) check(t *testing.T, needed int, kinds ...string) {
	t.Helper()
	for _, kind := range kinds {
		if c[kind] < needed {
			t.Errorf("%d times %s, %v: these tests miss something", c[kind], kind, c)
		}
	}
}

// countRequest counts what a request asks for, and what comes of it.
func (c census) countRequest(w api.StepRequest, want wanted) {
	for kind, ok := range map[string]bool{
		"more than is left": w.H > w.Last-w.T, "all that is left": w.H == w.Last-w.T, "less than is left": w.H < w.Last-w.T,
		"at a negative time": w.T < 0, "at the least time": w.T == -largest, "until the greatest time": w.Last == largest,
		"less than Least": sizes(w)[0] < w.Ctrl.Least, "more than Most": sizes(w)[0] > w.Ctrl.Most,
		"none": want.err != api.OK, "a failed step": want.failed > 0, "a wide step": want.tooWide > 0, "both": want.failed > 0 && want.tooWide > 0,
		"the first": want.err == api.OK && want.accepted == 0, "the second": want.accepted == 1, "a later one": want.accepted > 1,
		"the first and Most": want.err == api.OK && want.accepted == 0 && want.next == w.Ctrl.Most, "a later one and Most": want.accepted > 0 && want.next == w.Ctrl.Most,
	} {
		if ok {
			c[kind]++
		}
	}
}

func TestRandomRequests(t *testing.T) {
	source, count := rand.New(rand.NewSource(1)), census{}
	for range 20000 {
		p, w := randomTape(source), randomRequest(source)
		x := randomBox(source, p.N)
		want := wantAdvance(w, stepper(p, x, w))
		s, next, err := Advance(p, x, w)
		if !equalSegments(s, want.s) || next != want.next || err != want.err {
			t.Fatalf("Advance(%v, %v, %v) = %v, %d, %v, want %v", p, x, w, s, next, err, want)
		}
		if got := Accept(w.Ctrl, s); !got {
			t.Fatalf("Accept(%v, %v) = %v", w.Ctrl, s, got)
		}
		count.countRequest(w, want)
	}
	count.check(t, 100, "more than is left", "all that is left", "less than is left", "at a negative time", "at the least time", "until the greatest time", "less than Least", "more than Most", "none", "a failed step", "a wide step", "both", "the first", "the second", "a later one", "the first and Most", "a later one and Most")
}

// TestConstantDerivatives has systems whose steps are known: a reference that does not
// call package step.
func TestConstantDerivatives(t *testing.T) {
	source, count := rand.New(rand.NewSource(2)), census{}
	for range 20000 {
		w := randomRequest(source)
		// Their boxes are in range if the candidates are not too large.
		w.H = min(w.H, 1<<24)
		p, x, slopes := api.Tape{N: 1 + source.Intn(api.MaxDim)}, of(), of()
		for i := range p.N {
			slope, start := source.Int63n(9)-4, source.Int63n(1<<26)-1<<25
			slopes = append(slopes, between(slope, slope+source.Int63n(3)))
			x = append(x, between(start, start+upTo(source, 12)-1))
			p.L, p.Out = append(p.L, value(whole(slopes[i].Lo, slopes[i].Hi))), append(p.Out, i)
		}
		want := wantAdvance(w, func(h int64) (api.Segment, bool) {
			s := api.Segment{T: w.T, H: h, From: x}
			for i, a := range slopes {
				s.Tube = append(s.Tube, between(x[i].Lo+h*min(a.Lo, 0), x[i].Hi+h*max(a.Hi, 0)))
				s.To = append(s.To, between(x[i].Lo+h*a.Lo, x[i].Hi+h*a.Hi))
			}
			s.Pre = s.Tube
			return s, true
		})
		s, next, err := Advance(p, x, w)
		if !equalSegments(s, want.s) || next != want.next || err != want.err {
			t.Fatalf("Advance(%v, %v, %v) = %v, %d, %v, want %v", p, x, w, s, next, err, want)
		}
		count.countRequest(w, want)
	}
	count.check(t, 100, "none", "a wide step", "the first", "the second", "a later one", "the first and Most", "a later one and Most", "less than Least", "more than Most")
}

// TestRandomSegments compares Accept with its reference for segments of any boxes.
func TestRandomSegments(t *testing.T) {
	source, count := rand.New(rand.NewSource(3)), census{}
	for range 20000 {
		n, c := 1+source.Intn(api.MaxDim), randomControl(source)
		s := api.Segment{From: randomBox(source, n), Pre: randomBox(source, n)}
		// Widths of one unit above the limit are as frequent as others.
		for range n {
			for _, b := range []*[]api.Interval{&s.To, &s.Tube} {
				start := source.Int63n(2*one) - one
				width := []int64{0, c.Wide - 1, c.Wide, c.Wide, c.Wide, c.Wide + int64(source.Intn(2))}[source.Intn(6)]
				*b = append(*b, between(start, min(start+width, largest)))
			}
		}
		want := !tooWide(s.To, c.Wide) && !tooWide(s.Tube, c.Wide)
		if got := Accept(c, s); got != want {
			t.Fatalf("Accept(%v, %v) = %v", c, s, got)
		}
		for kind, ok := range map[string]bool{"accepted": want, "wide at the end": tooWide(s.To, c.Wide) && !tooWide(s.Tube, c.Wide), "wide tube": !tooWide(s.To, c.Wide) && tooWide(s.Tube, c.Wide)} {
			if ok {
				count[kind]++
			}
		}
	}
	count.check(t, 1000, "accepted", "wide at the end", "wide tube")
}
