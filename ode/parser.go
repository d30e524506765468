package ode

import (
	"slices"
	"strings"

	"armillary/api"
	"armillary/fixed"
	"armillary/interval"
)

// operators are the signs of the operations from Add to Div, in order.
const operators = "+-*/"

// parser is a text with what is known of the part of it before an offset.
type parser struct {
	text string
	at   int

	// nodes are those of the current expression. Until all names are known, the
	// index of a Var is that of its mention.
	nodes    []api.Node
	mentions []mention

	// tooBig tells that a number was out of range, which gives way to all errors behind it.
	tooBig bool
}

// mention is a name in a text, with the number of the line that it begins or, in
// a sum, -1.
type mention struct {
	token
	line int
}

// Parse returns the system of a text, or where and why it has none.
func Parse(s string) (api.System, int, api.Errno) {
	var system api.System
	offset, err := errorOf(func() { system = readSystem(s) })
	return system, offset, err
}

// ParseExpr returns the expression of a text over state variables with the given
// names, or where and why it has none.
func ParseExpr(s string, names []string) ([]api.Node, int, api.Errno) {
	var e []api.Node
	offset, err := errorOf(func() { e = readExpr(s, names) })
	return e, offset, err
}

// errorOf calls a function, and returns the failure with which it ends, if it does.
func errorOf(read func()) (offset int, code api.Errno) {
	defer func() {
		if f, failed := recover().(failure); failed {
			offset, code = f.offset, f.code
		}
	}()
	read()
	return 0, api.OK
}

// readSystem returns the system of a text.
func readSystem(s string) api.System {
	p := newParser(s)
	system := p.system()
	p.resolve(system.Names, system.F...)
	if p.tooBig || !Valid(system) {
		panic(failure{0, api.ErrBig})
	}
	return system
}

// readExpr returns the expression of a text over state variables with the given names.
func readExpr(s string, names []string) []api.Node {
	p := newParser(s)
	e := p.expression()
	p.need(endToken)
	p.resolve(names, e)
	if p.tooBig || !ValidExpr(e, len(names)) {
		panic(failure{0, api.ErrBig})
	}
	return e
}

func newParser(s string) *parser {
	if len(s) > api.MaxText {
		panic(failure{0, api.ErrBig})
	}
	return &parser{text: s}
}

// peek returns the next token. It is not looked for before it is needed, as an
// error at it would hide one at the token before it.
func (p *parser) peek() token { return tokenAt(p.text, p.at) }

// next returns the next token, and passes it.
func (p *parser) next() token {
	t := p.peek()
	p.at = t.at + len(t.text)
	return t
}

// need passes the next token, which must be of the given kind.
func (p *parser) need(kind string) token {
	t := p.next()
	if t.kind != kind {
		reject(t)
	}
	return t
}

// reject fails because of a token that is not allowed at its place.
func reject(t token) {
	if t.kind == endToken {
		panic(failure{t.at, api.ErrEnd})
	}
	panic(failure{t.at, api.ErrToken})
}

// system passes the whole text.
func (p *parser) system() api.System {
	var s api.System
	p.skipNewlines()
	p.line(&s)
	for p.skipNewlines() && p.peek().kind != endToken {
		p.line(&s)
	}
	p.need(endToken)
	return s
}

// skipNewlines passes all newlines that come next, and reports whether there are any.
func (p *parser) skipNewlines() bool {
	start := p.at
	for p.peek().kind == newline {
		p.next()
	}
	return p.at > start
}

// line passes a line, and adds it to a system.
func (p *parser) line(s *api.System) {
	name := p.need(nameToken)
	p.need("'")
	p.need("=")
	p.mentions = append(p.mentions, mention{name, len(s.Names)})
	s.Names = append(s.Names, name.text)
	s.F = append(s.F, p.expression())
}

// expression passes a sum, and returns its nodes.
func (p *parser) expression() []api.Node {
	p.nodes = nil
	p.sum()
	return p.nodes
}

func (p *parser) sum() { p.chain(p.product, "+", "-") }

func (p *parser) product() { p.chain(p.factor, "*", "/") }

// chain passes operands with operators between them.
func (p *parser) chain(operand func(), signs ...string) {
	start := len(p.nodes)
	operand()
	for slices.Contains(signs, p.peek().kind) {
		op := api.Add + strings.Index(operators, p.next().kind)
		// All of the chain so far becomes the first operand.
		p.nodes = slices.Insert(p.nodes, start, api.Node{Op: op})
		operand()
	}
}

func (p *parser) factor() {
	switch t := p.next(); t.kind {
	case "-":
		p.add(api.Node{Op: api.Neg})
		p.factor()
	case "(":
		p.sum()
		p.need(")")
	case "sqr":
		p.call(api.Sqr)
	case "sqrt":
		p.call(api.Sqrt)
	case "[":
		p.add(api.Node{Op: api.Num, C: p.bounds()})
	case "all":
		p.add(api.Node{Op: api.Num, C: interval.Entire()})
	case numberToken:
		lo, hi := p.number(t.text)
		p.add(api.Node{Op: api.Num, C: api.Interval{Lo: lo, Hi: hi}})
	case "t":
		p.add(api.Node{Op: api.Time})
	case nameToken:
		p.add(api.Node{Op: api.Var, N: len(p.mentions)})
		p.mentions = append(p.mentions, mention{t, -1})
	default:
		reject(t)
	}
}

// add appends a node to the current expression.
func (p *parser) add(node api.Node) { p.nodes = append(p.nodes, node) }

// call passes the argument of a function.
func (p *parser) call(op int) {
	p.add(api.Node{Op: op})
	p.need("(")
	p.sum()
	p.need(")")
}

// bounds passes the bounds of an interval and the bracket behind them.
func (p *parser) bounds() api.Interval {
	lo, _ := p.signed()
	p.need(",")
	_, hi := p.signed()
	p.need("]")
	return api.Interval{Lo: lo, Hi: hi}
}

// signed passes a number that may have a sign, and returns it rounded down and up.
func (p *parser) signed() (int64, int64) {
	if p.peek().kind != "-" {
		return p.number(p.need(numberToken).text)
	}
	p.next()
	return p.number("-" + p.need(numberToken).text)
}

// number returns a number rounded down and up, and notes if it is out of range.
func (p *parser) number(text string) (int64, int64) {
	lo, hi, _, err := fixed.Parse(text)
	if err != api.OK {
		p.tooBig = true
	}
	return lo, hi
}

// resolve replaces the indices of mentions by those of the state variables with
// the given names. All mentions are checked first, as they may be wrong in any
// expression.
func (p *parser) resolve(names []string, expressions ...[]api.Node) {
	index := map[string]int{}
	for i, name := range names {
		if _, repeated := index[name]; !repeated {
			index[name] = i
		}
	}
	for _, m := range p.mentions {
		i, known := index[m.text]
		if !known || m.line >= 0 && m.line != i {
			panic(failure{m.at, api.ErrName})
		}
	}
	for _, e := range expressions {
		for i := range e {
			if e[i].Op == api.Var {
				e[i].N = index[p.mentions[e[i].N].text]
			}
		}
	}
}
