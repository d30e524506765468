package jacobian

import (
	"armillary/api"
	"armillary/interval"
)

// simplified returns the simplification of a root with operands that are simplified.
func simplified(root api.Node, operands ...*term) *term {
	if len(operands) > 0 {
		if a := reduced(root.Op, operands[0], operands[len(operands)-1]); a != nil {
			return a
		}
	}
	return &term{root, operands}
}

// reduced returns what the first rule that applies makes of an operation, or nil if
// none does. An operation on one operand has it as both a and b.
func reduced(op int, a, b *term) *term {
	switch op {
	case api.Neg:
		return reducedNegation(a)
	case api.Sqr, api.Sqrt:
		if a.is(0) || a.is(api.One) {
			return a
		}
	case api.Add:
		return reducedSum(a, b)
	case api.Sub:
		return reducedDifference(a, b)
	case api.Mul:
		return reducedProduct(a, b)
	case api.Div:
		if a.is(0) || b.is(api.One) {
			return a
		}
	}
	return nil
}

func reducedNegation(a *term) *term {
	switch {
	case a.isPoint():
		return number(-a.root.C.Lo)
	case a.root.Op == api.Neg:
		return a.operands[0]
	}
	return nil
}

func reducedSum(a, b *term) *term {
	switch {
	case a.is(0):
		return b
	case b.is(0):
		return a
	}
	return computed(interval.Add, a, b)
}

func reducedDifference(a, b *term) *term {
	switch {
	case b.is(0):
		return a
	case a.is(0):
		return apply(api.Neg, b)
	}
	return computed(interval.Sub, a, b)
}

func reducedProduct(a, b *term) *term {
	switch {
	case a.is(0):
		return a
	case b.is(0), a.is(api.One):
		return b
	case b.is(api.One):
		return a
	}
	return computed(interval.Mul, a, b)
}

// computed returns the result of an operation on two points, or nil if one of the
// three is none.
func computed(operation func(a, b api.Interval) api.Interval, a, b *term) *term {
	if !a.isPoint() || !b.isPoint() {
		return nil
	}
	c := operation(a.root.C, b.root.C)
	if c.Lo != c.Hi {
		return nil
	}
	return number(c.Lo)
}

// apply returns the simplification of an operation on operands that are simplified.
func apply(op int, operands ...*term) *term {
	return simplified(api.Node{Op: op}, operands...)
}
