package vm

import (
	"slices"

	"casket/api"
	"casket/meaning"
)

// operand is the register in which the next node's value stands: a variable's own, as nothing that an expression does changes that; or the one at a height, where it is worked out.
func (w *writer) operand(height int) int {
	if node := w.row[0]; node.Kind == api.NodeName {
		if register, own := w.variable(node.Text); own {
			w.take()
			return register
		}
	}
	w.value(height, height)
	return height
}

// above is the height for what is worked out while a register at a height waits. A variable's own lies beneath.
func above(register, height int) int {
	if register == height {
		return height + 1
	}
	return height
}

// value works the next node out, at a height. What register to was is there till the last instruction.
func (w *writer) value(to, height int) {
	w.use(to)
	node := w.take()
	switch node.Kind {
	case api.NodeName:
		w.name(node, to, height)
	case api.NodeOr:
		w.either(node, opOr, to, height)
	case api.NodeAnd:
		w.either(node, opAnd, to, height)
	case api.NodeNot:
		w.unary(node, "not", to, height)
	case api.NodeUnary:
		w.unary(node, node.Text, to, height)
	case api.NodeBinary:
		w.binary(node, to, height)
	case api.NodeIndex:
		thing, index := w.two(height)
		w.emit(api.Instr{Op: opLoad, A: to, B: thing, C: index}, node.At, height)
	case api.NodeCall:
		w.call(node, to, height)
	default:
		w.emit(api.Instr{Op: opConst, A: to, B: w.constant(meaning.Literal(node))}, node.At, height)
	}
}

// two are the registers of two operands.
func (w *writer) two(height int) (first, second int) {
	first = w.operand(height)
	return first, w.operand(above(first, height))
}

func (w *writer) name(node api.Node, to, height int) {
	if register, own := w.variable(node.Text); own {
		w.emit(api.Instr{Op: opMove, A: to, B: register}, node.At, height)
		return
	}
	w.emit(api.Instr{Op: opGet, A: to, B: w.program.globals[node.Text]}, node.At, height)
}

// either skips its second operand where the first one settles it.
func (w *writer) either(node api.Node, op, to, height int) {
	first := w.operand(height)
	skip := w.emit(api.Instr{Op: op, A: to, B: first}, node.At, height)
	second := w.operand(height)
	w.emit(api.Instr{Op: opTruth, A: to, B: second}, node.At, height)
	w.land(skip)
}

func (w *writer) unary(node api.Node, operator string, to, height int) {
	of := w.operand(height)
	for n, name := range unaries {
		if name == operator {
			w.emit(api.Instr{Op: opUnary, A: to, B: of, C: n}, node.At, height)
		}
	}
}

func (w *writer) binary(node api.Node, to, height int) {
	first, second := w.two(height)
	for n, name := range operators {
		if name == node.Text {
			in := w.emit(api.Instr{Op: opOf(n, api.Generic), A: to, B: first, C: second}, node.At, height)
			w.settle(in, node.At)
		}
	}
}

// settle gives an instruction its site's number, if there is one at that place.
func (w *writer) settle(in, at int) {
	if n, found := slices.BinarySearch(w.program.places, at); found {
		w.code[in].Site = n
	}
}

// call puts the arguments one behind the other: there they are the parameters of the function that is called.
func (w *writer) call(node api.Node, to, height int) {
	for i := range node.Kids {
		w.value(height+i, height+i)
	}
	if n, own := w.program.numbers[node.Text]; own {
		w.emit(api.Instr{Op: opCall, A: to, B: height, C: n}, node.At, height)
		return
	}
	n := w.program.builtin(builtin{name: node.Text, arity: node.Kids})
	w.emit(api.Instr{Op: opBuiltin, A: to, B: height, C: n}, node.At, height)
}

// constant is the number of a literal's value, which may stand in several places.
func (w *writer) constant(v api.Value) int {
	for n, c := range w.consts {
		if c.value == v {
			return n
		}
	}
	word, light := w.program.light(v)
	w.consts = append(w.consts, constant{value: v, word: word, cell: !light})
	return len(w.consts) - 1
}
