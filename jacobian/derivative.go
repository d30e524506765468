package jacobian

import "armillary/api"

// dual is an expression with its derivative, both of them simplified.
type dual struct{ value, slope *term }

// derivative returns the simplified derivative of an expression with respect to a
// variable, which may be the time. Simplifying starts with the operands anyway, so
// each part of the derivative is simplified when it is made.
func derivative(e []api.Node, variable api.Node) []api.Node {
	rules := differentiationRules()
	whole := traverse(e, func(root api.Node, operands ...dual) dual {
		var values []*term
		for _, operand := range operands {
			values = append(values, operand.value)
		}
		slope := number(0)
		switch {
		case len(operands) > 0:
			slope = rules[root.Op](operands[0], operands[len(operands)-1])
		case root == variable:
			slope = number(api.One)
		}
		return dual{simplified(root, values...), slope}
	})
	return whole.slope.nodes()
}

// differentiationRules returns the derivatives of operations. An operation on one
// operand has it as both a and b.
func differentiationRules() map[int]func(a, b dual) *term {
	return map[int]func(a, b dual) *term{
		api.Neg: func(a, _ dual) *term { return apply(api.Neg, a.slope) },
		api.Add: func(a, b dual) *term { return apply(api.Add, a.slope, b.slope) },
		api.Sub: func(a, b dual) *term { return apply(api.Sub, a.slope, b.slope) },
		api.Mul: func(a, b dual) *term {
			return apply(api.Add, apply(api.Mul, a.slope, b.value), apply(api.Mul, a.value, b.slope))
		},
		api.Div: func(a, b dual) *term {
			above := apply(api.Sub, apply(api.Mul, a.slope, b.value), apply(api.Mul, a.value, b.slope))
			return apply(api.Div, above, apply(api.Sqr, b.value))
		},
		api.Sqr: func(a, _ dual) *term {
			return apply(api.Mul, twice(a.value), a.slope)
		},
		api.Sqrt: func(a, _ dual) *term {
			return apply(api.Div, a.slope, twice(apply(api.Sqrt, a.value)))
		},
	}
}

// twice returns the double of a term.
func twice(a *term) *term { return apply(api.Mul, number(2*api.One), a) }
