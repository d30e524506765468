package ode

import (
	"strings"

	"armillary/api"
	"armillary/fixed"
	"armillary/interval"
)

// Format returns the text of a system.
func Format(s api.System) string {
	if !Valid(s) {
		return ""
	}
	var text strings.Builder
	for i, name := range s.Names {
		text.WriteString(name + "' = " + exprText(s.F[i], s.Names) + newline)
	}
	return text.String()
}

// FormatExpr returns the text of an expression over state variables with the given names.
func FormatExpr(e []api.Node, names []string) string {
	if !ValidExpr(e, len(names)) {
		return ""
	}
	return exprText(e, names)
}

// exprText returns the text of a valid expression.
func exprText(e []api.Node, names []string) string {
	var operands []string
	for _, operand := range Operands(e) {
		operands = append(operands, exprText(operand, names))
	}
	switch op := e[0].Op; op {
	case api.Num:
		return intervalText(e[0].C)
	case api.Var:
		return names[e[0].N]
	case api.Time:
		return "t"
	case api.Neg:
		return "(-" + operands[0] + ")"
	case api.Sqr:
		return "sqr(" + operands[0] + ")"
	case api.Sqrt:
		return "sqrt(" + operands[0] + ")"
	default:
		return "(" + strings.Join(operands, " "+operators[op-api.Add:][:1]+" ") + ")"
	}
}

// intervalText returns the text of an interval. A negative number would be read
// as the negation of another one, so it is written as an interval.
func intervalText(a api.Interval) string {
	switch {
	case interval.IsEntire(a):
		return "all"
	case a.Lo == a.Hi && a.Lo >= 0:
		return fixed.Format(a.Lo)
	}
	return "[" + fixed.Format(a.Lo) + ", " + fixed.Format(a.Hi) + "]"
}
