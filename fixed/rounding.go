package fixed

// integer is a type in which quotients are computed: int64, or uint64 for magnitudes.
type integer interface{ int64 | uint64 }

// The sides to which a quotient is rounded, or on which it lies.
const (
	below = -1
	above = 1
)

// bounds returns n / d rounded down and up.
func bounds[T integer](n, d T) (T, T) {
	return divide(n, d, toward[T](below)), divide(n, d, toward[T](above))
}

// divide returns n / d, rounded by a rule that is given the quotient truncated
// towards zero and the side of it on which the exact quotient lies, 0 for none.
func divide[T integer](n, d T, rule func(quotient T, side int) T) T {
	quotient, rest := n/d, n%d
	switch {
	case rest == 0:
		return rule(quotient, 0)
	case (rest < 0) != (d < 0):
		return rule(quotient, below)
	}
	return rule(quotient, above)
}

// toward returns the rule that rounds to the given side: truncation goes there
// already, unless the exact quotient lies on that side of the truncated one.
func toward[T integer](target int) func(quotient T, side int) T {
	return func(quotient T, side int) T {
		if side == target {
			return quotient + T(target)
		}
		return quotient
	}
}

// floorRoot returns the square root of n rounded down, for an n below 2^48.
func floorRoot(n uint64) uint64 {
	if n == 0 {
		return 0
	}
	// Newton's iteration falls as long as it is above the root, so it starts
	// there, and it never falls below the root rounded down.
	root := uint64(1) << 24
newton:
	for {
		next := (root + n/root) / 2
		switch {
		case next < root:
			root = next
		default:
			break newton
		}
	}
	return root
}
