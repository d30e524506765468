package tape

import (
	"armillary/api"
	"armillary/ode"
)

// Compile returns the tape of a system, or the zero tape if it would be too long.
func Compile(s api.System) api.Tape {
	if !ode.Valid(s) {
		// Not required, but there is no tape then.
		return api.Tape{}
	}
	l := newList()
	var emit func(e []api.Node) int
	emit = func(e []api.Node) int {
		in := api.Instruction{Op: e[0].Op, A: e[0].N, C: e[0].C}
		operands := ode.Operands(e)
		if len(operands) > 0 {
			in.A = emit(operands[0])
		}
		if len(operands) > 1 {
			in.B = emit(operands[1])
		}
		return l.indexOf(in)
	}
	var out []int
	for _, e := range s.F {
		out = append(out, emit(e))
	}
	return l.tape(out)
}

// Optimize returns a tape without instructions that are not used, or that repeat
// others.
func Optimize(c api.Tape) api.Tape {
	if !Valid(c) {
		// Not required, but operands may not exist then.
		return api.Tape{}
	}
	l := newList()
	// An instruction can be used in more places than could ever be visited, so its
	// index is kept.
	emitted := map[int]int{}
	var emit func(i int) int
	emit = func(i int) int {
		if index, known := emitted[i]; known {
			return index
		}
		in := c.L[i]
		operands := operandsOf(in)
		if len(operands) > 0 {
			in.A = emit(operands[0])
		}
		if len(operands) > 1 {
			in.B = emit(operands[1])
		}
		emitted[i] = l.indexOf(in)
		return emitted[i]
	}
	var out []int
	for _, i := range c.Out {
		out = append(out, emit(i))
	}
	return l.tape(out)
}

// Decompile returns the expressions of a tape, with nil in place of those that are
// too large.
func Decompile(c api.Tape) [][]api.Node {
	if !Valid(c) {
		// Not required, but operands may not exist then.
		return nil
	}
	var e []api.Node
	var emit func(i int)
	emit = func(i int) {
		in := c.L[i]
		node := api.Node{Op: in.Op, C: in.C}
		if in.Op == api.Var {
			node.N = in.A
		}
		e = append(e, node)
		for _, operand := range operandsOf(in) {
			emit(operand)
		}
	}
	var rows [][]api.Node
	nodes := sizes(c.L)
	for _, i := range c.Out {
		e = nil
		if nodes[i] <= api.MaxNodes {
			emit(i)
		}
		rows = append(rows, e)
	}
	return rows
}

// sizes returns the numbers of nodes of the expressions of instructions. All that
// are too large have the same number, as the true one may be out of range.
func sizes(l []api.Instruction) []int {
	nodes := make([]int, len(l))
	for i, in := range l {
		n := 1
		for _, operand := range operandsOf(in) {
			n += nodes[operand]
		}
		nodes[i] = min(n, api.MaxNodes+1)
	}
	return nodes
}

// operandsOf returns the indices of the operands of an instruction.
func operandsOf(in api.Instruction) []int {
	switch in.Op {
	case api.Neg, api.Sqr, api.Sqrt:
		return []int{in.A}
	case api.Add, api.Sub, api.Mul, api.Div:
		return []int{in.A, in.B}
	}
	return nil
}

// list is a list of instructions, no two of which are equal, with their indices.
type list struct {
	instructions []api.Instruction
	index        map[api.Instruction]int
}

func newList() *list { return &list{index: map[api.Instruction]int{}} }

// indexOf returns the index of an instruction, which is appended if it is not there.
func (l *list) indexOf(in api.Instruction) int {
	i, known := l.index[in]
	if !known {
		i = len(l.instructions)
		l.instructions = append(l.instructions, in)
		l.index[in] = i
	}
	return i
}

// tape returns the tape with these instructions and the given indices of results,
// or the zero tape if there are too many instructions.
func (l *list) tape(out []int) api.Tape {
	if len(l.instructions) > api.MaxInstrs {
		return api.Tape{}
	}
	return api.Tape{N: len(out), L: l.instructions, Out: out}
}
