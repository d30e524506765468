package box

import (
	"math/big"
	"math/rand"
	"slices"
	"testing"

	"armillary/api"
	"armillary/interval"
)

// plane returns all boxes of two coordinates between -1 and 1 unit or entire.
func plane() [][]api.Interval {
	l := of(entire)
	for lo := int64(-1); lo <= 1; lo++ {
		for hi := lo; hi <= 1; hi++ {
			l = append(l, between(lo, hi))
		}
	}
	var boxes [][]api.Interval
	for _, x := range l {
		for _, y := range l {
			boxes = append(boxes, of(x, y))
		}
	}
	return boxes
}

// randomNumber returns a number of any length up to the given one in bits.
func randomNumber(source *rand.Rand, bits int) int64 {
	x := source.Int63n(1 << (1 + source.Intn(bits)))
	if source.Intn(2) == 0 {
		return -x
	}
	return x
}

// randomBox returns a box of n coordinates, seldom with an entire one, whose
// ends have at most the given length in bits.
func randomBox(source *rand.Rand, n, bits int) []api.Interval {
	b := make([]api.Interval, n)
	for i := range b {
		x, y := randomNumber(source, bits), randomNumber(source, bits)
		b[i] = between(min(x, y), max(x, y))
		switch source.Intn(24) {
		case 0:
			b[i] = entire
		case 1, 2, 3:
			b[i] = point(x)
		case 4:
			b[i] = between(min(x, largest-1), min(x, largest-1)+1)
		}
	}
	return b
}

// randomPart returns a box within b.
func randomPart(source *rand.Rand, b []api.Interval) []api.Interval {
	x, y := randomPoint(source, b), randomPoint(source, b)
	part := make([]api.Interval, len(b))
	for i := range part {
		part[i] = between(min(x[i], y[i]), max(x[i], y[i]))
		if source.Intn(3) == 0 {
			part[i] = b[i]
		}
	}
	return part
}

// randomPoint returns a point of b, often one of its corners.
func randomPoint(source *rand.Rand, b []api.Interval) []int64 {
	l := make([]int64, len(b))
	for i, a := range b {
		lo, hi := max(a.Lo, -largest), min(a.Hi, largest)
		l[i] = []int64{lo, hi, lo + source.Int63n(hi-lo+1)}[source.Intn(3)]
	}
	return l
}

// randomPairs returns pairs of boxes of 1 to 6 coordinates.
func randomPairs(seed int64, count, bits int) [][2][]api.Interval {
	source := rand.New(rand.NewSource(seed))
	var l [][2][]api.Interval
	for i := range count {
		n := 1 + i%6
		a, b := randomBox(source, n, bits), randomBox(source, n, bits)
		if source.Intn(4) == 0 {
			b = randomPart(source, a)
		}
		l = append(l, [2][]api.Interval{a, b})
	}
	return l
}

// near returns pairs of boxes of 1 to 6 coordinates whose squared distances are mostly numbers.
func near(seed int64) [][2][]api.Interval { return randomPairs(seed, 20000, 22) }

// P3.2: lattice.

func TestSubsetIsPartialOrder(t *testing.T) {
	l := plane()
	for _, a := range l {
		if !Subset(a, a) {
			t.Errorf("%v is no subset of itself", a)
		}
		for _, b := range l {
			if Subset(a, b) && Subset(b, a) && !slices.Equal(a, b) {
				t.Errorf("%v and %v are subsets of each other", a, b)
			}
			for _, c := range l {
				if Subset(a, b) && Subset(b, c) && !Subset(a, c) {
					t.Errorf("%v, %v and %v: Subset is not transitive", a, b, c)
				}
			}
		}
	}
}

func TestHullIsLeastUpperBound(t *testing.T) {
	l := plane()
	for _, a := range l {
		for _, b := range l {
			hull := Hull(a, b)
			if !Valid(hull) || !Subset(a, hull) || !Subset(b, hull) {
				t.Errorf("Hull(%v, %v) = %v", a, b, hull)
			}
			for _, c := range l {
				if Subset(a, c) && Subset(b, c) && !Subset(hull, c) {
					t.Errorf("Hull(%v, %v) = %v, but %v contains both", a, b, hull, c)
				}
			}
		}
	}
}

func TestIntersectIsGreatestLowerBound(t *testing.T) {
	l := plane()
	for _, a := range l {
		for _, b := range l {
			common, ok := Intersect(a, b)
			if ok && (!Valid(common) || !Subset(common, a) || !Subset(common, b)) {
				t.Errorf("Intersect(%v, %v) = %v", a, b, common)
			}
			for _, c := range l {
				if Subset(c, a) && Subset(c, b) && !(ok && Subset(c, common)) {
					t.Errorf("Intersect(%v, %v) = %v, %t, but %v lies in both", a, b, common, ok, c)
				}
			}
		}
	}
}

func TestLatticeOfRandomBoxes(t *testing.T) {
	source := rand.New(rand.NewSource(11))
	for _, x := range randomPairs(1, 20000, 31) {
		a, b := x[0], x[1]
		hull := Hull(a, b)
		if !Valid(hull) || !Subset(a, hull) || !Subset(b, hull) || Subset(a, b) != slices.Equal(hull, b) {
			t.Errorf("Hull(%v, %v) = %v", a, b, hull)
		}
		common, ok := Intersect(a, b)
		if ok && (!Valid(common) || !Subset(common, a) || !Subset(common, b)) || Subset(a, b) != (ok && slices.Equal(common, a)) {
			t.Errorf("Intersect(%v, %v) = %v, %t", a, b, common, ok)
		}
		for _, l := range [][]int64{randomPoint(source, a), randomPoint(source, b), randomPoint(source, hull)} {
			if in := Contains(a, l) && Contains(b, l); in != (ok && Contains(common, l)) {
				t.Errorf("Intersect(%v, %v) = %v, %t, and %v is a point of both: %t", a, b, common, ok, l, in)
			}
			if (Contains(a, l) || Contains(b, l)) && !Contains(hull, l) {
				t.Errorf("Hull(%v, %v) = %v does not contain %v", a, b, hull, l)
			}
			if Contains(a, l) != Subset(Point(l), a) {
				t.Errorf("%v: Contains and Subset disagree about %v", a, l)
			}
		}
	}
}

// P3.3: bisection.

func TestHalvesMakeTheWhole(t *testing.T) {
	source := rand.New(rand.NewSource(12))
	for _, x := range append(randomPairs(2, 10000, 31), randomPairs(3, 10000, 3)...) {
		b := x[0]
		for k := range b {
			lower, upper, err := Bisect(b, k)
			if (err == api.ErrArg) != (b[k] == entire) {
				t.Fatalf("Bisect(%v, %d) returns the error %d", b, k, err)
			}
			if err != api.OK {
				continue
			}
			if !Valid(lower) || !Valid(upper) || !slices.Equal(Hull(lower, upper), b) {
				t.Errorf("Bisect(%v, %d) = %v, %v, whose hull is another box", b, k, lower, upper)
			}
			if common, ok := Intersect(lower, upper); !ok || Width(common[k:k+1]) != 0 {
				t.Errorf("Bisect(%v, %d) = %v, %v, which share %v", b, k, lower, upper, common)
			}
			if l := randomPoint(source, b); !Contains(lower, l) && !Contains(upper, l) {
				t.Errorf("Bisect(%v, %d) = %v, %v without %v", b, k, lower, upper, l)
			}
		}
	}
}

func TestBisectionHalvesTheWidth(t *testing.T) {
	for _, x := range append(randomPairs(4, 10000, 31), randomPairs(5, 10000, 3)...) {
		b := x[0]
		k, width := WidestAxis(b), Width(b)
		if interval.Width(b[k]) != width {
			t.Errorf("%v has the width %d, but %d at %d", b, width, interval.Width(b[k]), k)
		}
		for i, a := range b {
			if interval.Width(a) > width || i < k && interval.Width(a) == width {
				t.Errorf("%v is at %d as wide as at %d", b, i, k)
			}
		}
		lower, upper, err := Bisect(b, k)
		if err != api.OK {
			continue
		}
		if w := interval.Width(lower[k]); w != width/2 {
			t.Errorf("%v of the width %d has a lower half of the width %d", b, width, w)
		}
		if w := interval.Width(upper[k]); w != width-width/2 {
			t.Errorf("%v of the width %d has an upper half of the width %d", b, width, w)
		}
	}
}

// P3.4: separation.

// exactSquare returns the squared distance of two points in squares of a unit.
func exactSquare(l, m []int64) *big.Int {
	sum := new(big.Int)
	for i := range l {
		d := big.NewInt(l[i] - m[i])
		sum.Add(sum, d.Mul(d, d))
	}
	return sum
}

// squared returns the square of a number of units.
func squared(x int64) *big.Int { return new(big.Int).Mul(big.NewInt(x), big.NewInt(x)) }

// corners returns a point of a and a point of b that are as near to each other
// as possible, and two that are as far apart as possible.
func corners(a, b []api.Interval) (near, far [2][]int64) {
	for i := range a {
		x := min(max(a[i].Lo, b[i].Lo), a[i].Hi)
		near[0], near[1] = append(near[0], x), append(near[1], min(max(x, b[i].Lo), b[i].Hi))
		if a[i].Hi-b[i].Lo > b[i].Hi-a[i].Lo {
			far[0], far[1] = append(far[0], a[i].Hi), append(far[1], b[i].Lo)
		} else {
			far[0], far[1] = append(far[0], a[i].Lo), append(far[1], b[i].Hi)
		}
	}
	return near, far
}

func TestSquaredDistanceContainsDistances(t *testing.T) {
	source := rand.New(rand.NewSource(13))
	bounded := 0
	for _, x := range near(6) {
		a, b := x[0], x[1]
		d := SquaredDistance(a, b)
		if !interval.Valid(d) || d != SquaredDistance(b, a) {
			t.Errorf("SquaredDistance(%v, %v) = %v, and %v in the other order", a, b, d, SquaredDistance(b, a))
		}
		if interval.IsEntire(d) {
			continue
		}
		bounded++
		lo, hi := big.NewInt(d.Lo*one), big.NewInt(d.Hi*one)
		within := func(l, m []int64) bool {
			exact := exactSquare(l, m)
			return exact.Cmp(lo) >= 0 && exact.Cmp(hi) <= 0
		}
		if l, m := randomPoint(source, a), randomPoint(source, b); !within(l, m) {
			t.Errorf("SquaredDistance(%v, %v) = %v without that of %v and %v", a, b, d, l, m)
		}
		// The sum is rounded by less than a unit at each coordinate.
		slack := big.NewInt(int64(len(a)) * one)
		least, greatest := corners(a, b)
		if !within(least[0], least[1]) || exactSquare(least[0], least[1]).Cmp(lo.Add(lo, slack)) >= 0 {
			t.Errorf("SquaredDistance(%v, %v) = %v, but %v and %v are nearest", a, b, d, least[0], least[1])
		}
		lo = big.NewInt(d.Lo * one)
		if !within(greatest[0], greatest[1]) || exactSquare(greatest[0], greatest[1]).Cmp(hi.Sub(hi, slack)) <= 0 {
			t.Errorf("SquaredDistance(%v, %v) = %v, but %v and %v are farthest", a, b, d, greatest[0], greatest[1])
		}
	}
	if bounded < 5000 {
		t.Error("few squared distances are bounded:", bounded)
	}
}

func TestSeparatedBoxesAreDisjoint(t *testing.T) {
	source := rand.New(rand.NewSource(14))
	separated := 0
	for _, x := range near(7) {
		a, b := x[0], x[1]
		least := SquaredDistance(a, b).Lo
		for _, d := range []int64{0, 1, 256, source.Int63n(1 << 22), largest} {
			square := squared(d)
			// d*d rounded up is less than a number if d*d is at most that number less one.
			want := least >= 0 && square.Cmp(big.NewInt((least-1)*one)) <= 0
			if got := Separated(a, b, d); got != want || got != Separated(b, a, d) {
				t.Errorf("Separated(%v, %v, %d) = %t", a, b, d, got)
			}
			if !want {
				continue
			}
			separated++
			if _, ok := Intersect(a, b); ok {
				t.Errorf("%v and %v are separated, but not disjoint", a, b)
			}
			c, e := randomPart(source, a), randomPart(source, b)
			if !Separated(c, e, d) {
				t.Errorf("%v and %v are separated by %d, but not their parts %v and %v", a, b, d, c, e)
			}
			if l, m := randomPoint(source, a), randomPoint(source, b); exactSquare(l, m).Cmp(square) <= 0 {
				t.Errorf("%v and %v are separated by %d, but not their points %v and %v", a, b, d, l, m)
			}
		}
	}
	if separated < 5000 {
		t.Error("few boxes are separated:", separated)
	}
}

func TestIsotone(t *testing.T) {
	source := rand.New(rand.NewSource(15))
	for _, x := range near(8) {
		a, b := x[0], x[1]
		c, e := randomPart(source, a), randomPart(source, b)
		if !Subset(c, a) || !Subset(e, b) {
			t.Fatalf("%v, %v: wrong parts %v, %v", a, b, c, e)
		}
		if !interval.Subset(SquaredDistance(c, e), SquaredDistance(a, b)) {
			t.Errorf("the squared distance of %v and %v is not within that of %v and %v", c, e, a, b)
		}
		by := source.Int63n(1 << 31)
		wide := Inflate(a, by)
		if !Valid(wide) || !Subset(a, wide) || !Subset(Inflate(c, by), wide) {
			t.Errorf("Inflate(%v, %d) = %v", a, by, wide)
		}
		if !Contains(a, Mid(a)) || !Valid(Point(Mid(a))) {
			t.Errorf("Mid(%v) = %v", a, Mid(a))
		}
	}
}
