package jacobian

import (
	"armillary/api"
	"armillary/interval"
	"armillary/ode"
)

// term is an expression under construction. The terms of a derivative share many of
// their operands, which are written out only when it is complete. No term is changed.
type term struct {
	root     api.Node
	operands []*term
}

// number returns the term of a point.
func number(c int64) *term {
	return &term{root: api.Node{Op: api.Num, C: interval.Point(c)}}
}

// isPoint reports whether a term consists of a point, whichever it is.
func (a *term) isPoint() bool {
	return a.root.Op == api.Num && a.root.C.Lo == a.root.C.Hi
}

// is reports whether a term consists of the point c.
func (a *term) is(c int64) bool { return a.isPoint() && a.root.C.Lo == c }

// nodes returns the nodes of a term in prefix order.
func (a *term) nodes() []api.Node {
	var e []api.Node
	var write func(a *term)
	write = func(a *term) {
		e = append(e, a.root)
		for _, operand := range a.operands {
			write(operand)
		}
	}
	write(a)
	return e
}

// traverse visits the nodes of an expression, each of them after its operands and
// with the results for these, and returns the result for the root.
func traverse[T any](e []api.Node, visit func(root api.Node, operands ...T) T) T {
	var next func(e []api.Node) T
	next = func(e []api.Node) T {
		if len(e) == 0 {
			// Not required: for an operand that is missing, there is no operation.
			return visit(api.Node{})
		}
		var operands []T
		for _, operand := range ode.Operands(e) {
			operands = append(operands, next(operand))
		}
		return visit(e[0], operands...)
	}
	return next(e)
}
