package vm

import (
	"slices"

	"casket/api"
)

// writer writes the code of a function. It goes through a tree's row from the front: kids stand right behind their node.
// What is worked out stands at a height, which is that of its first register, as chapter 13 counts them; so the registers that are needed still are always those beneath.
type writer struct {
	program *program
	row     []api.Node // what is left of it
	code    []instr
	consts  []constant
	regs    int
	height  int        // of the statement at hand
	scope   []variable // in the order in which they came
	loops   []loop     // around the statement at hand
}

type variable struct {
	name     string
	register int
}

// loop is one around: its test is at top, and the jumps at exits lead out of it.
type loop struct {
	label string
	top   int
	exits []int
}

// take is the next node.
func (w *writer) take() api.Node {
	node := w.row[0]
	w.row = w.row[1:]
	return node
}

// emit answers the place of the instruction. Those with a site get its number later.
func (w *writer) emit(in api.Instr, at, live int) int {
	in.Site = -1
	w.code = append(w.code, instr{Instr: in, at: at, live: live})
	return len(w.code) - 1
}

// land makes the instruction that comes next the one to which a jump leads.
func (w *writer) land(jump int) { w.code[jump].C = len(w.code) }

func (w *writer) tick(at int) {
	tick := w.emit(api.Instr{Op: opTick}, at, w.height)
	for _, v := range w.scope {
		w.code[tick].vars = append(w.code[tick].vars, v.register)
	}
}

// use counts a register.
func (w *writer) use(register int) { w.regs = max(w.regs, register+1) }

// declare makes a variable of the register at the statement's height: a let's value stands there already.
func (w *writer) declare(name string) {
	w.use(w.height)
	w.scope = append(w.scope, variable{name: name, register: w.height})
	w.height++
}

// forget leaves what stands in a scope: so many variables, beneath that height.
func (w *writer) forget(vars, height int) { w.scope, w.height = w.scope[:vars], height }

// function takes its parameters and its block.
func (w *writer) function(node api.Node) function {
	for range node.Kids - 1 {
		w.declare(w.take().Text)
	}
	w.tick(node.At)
	w.block()
	w.emit(api.Instr{Op: opLeave}, node.At, w.height)
	return function{code: w.code, consts: w.consts, regs: w.regs}
}

func (w *writer) block() {
	vars, height := len(w.scope), w.height
	for range w.take().Kids {
		w.statement()
	}
	w.forget(vars, height)
}

func (w *writer) statement() {
	node := w.take()
	w.tick(node.At)
	switch node.Kind {
	case api.NodeLet:
		w.value(w.height, w.height)
		w.declare(node.Text)
	case api.NodeAssign:
		w.assign(node)
	case api.NodeStore:
		w.store(node)
	case api.NodeIf:
		w.choice(node)
	case api.NodeWhile:
		w.whileLoop(node)
	case api.NodeFor:
		w.forLoop(node)
	case api.NodeBreak, api.NodeContinue:
		w.jump(node)
	case api.NodeReturn:
		w.leave(node)
	case api.NodeOut:
		told := w.operand(w.height)
		w.emit(api.Instr{Op: opOut, A: told}, node.At, w.height)
	case api.NodeExpr:
		w.operand(w.height)
	}
}

// assign works a variable's new value out where the old one stands: that is needed till the last instruction.
func (w *writer) assign(node api.Node) {
	if register, own := w.variable(node.Text); own {
		w.value(register, w.height)
		return
	}
	from := w.operand(w.height)
	w.emit(api.Instr{Op: opPut, A: from, B: w.program.globals[node.Text]}, node.At, w.height)
}

func (w *writer) store(node api.Node) {
	h := w.height
	thing := w.operand(h)
	h = above(thing, h)
	index := w.operand(h)
	value := w.operand(above(index, h))
	w.emit(api.Instr{Op: opStore, A: thing, B: index, C: value}, node.At, w.height)
}

func (w *writer) leave(node api.Node) {
	if node.Kids == 0 {
		w.emit(api.Instr{Op: opLeave}, node.At, w.height)
		return
	}
	value := w.operand(w.height)
	w.emit(api.Instr{Op: opReturn, A: value}, node.At, w.height)
}

func (w *writer) choice(node api.Node) {
	otherwise := w.test(node)
	w.block()
	if node.Kids == 2 {
		w.land(otherwise)
		return
	}
	end := w.emit(api.Instr{Op: opJump}, node.At, w.height)
	w.land(otherwise)
	if w.row[0].Kind == api.NodeIf {
		w.statement()
	} else {
		w.block()
	}
	w.land(end)
}

// test works a condition out, and jumps where it is false.
func (w *writer) test(node api.Node) int {
	condition := w.operand(w.height)
	return w.emit(api.Instr{Op: opUnless, A: condition}, node.At, w.height)
}

func (w *writer) whileLoop(node api.Node) {
	w.enter(node.Text, node.At)
	exit := w.test(node)
	w.block()
	w.repeat(exit)
}

// forLoop needs three registers: of the next number, of the one that it does not come to, and of its variable.
func (w *writer) forLoop(node api.Node) {
	label := ""
	if w.row[0].Kind == api.NodeLabel {
		label = w.take().Text
	}
	vars, height := len(w.scope), w.height
	w.value(height, height)
	w.value(height+1, height+1)
	w.emit(api.Instr{Op: opBounds, A: height}, node.At, height)
	w.height += 2
	w.enter(label, node.At)
	exit := w.emit(api.Instr{Op: opRound, A: height}, node.At, w.height)
	w.declare(node.Text)
	w.block()
	w.repeat(exit)
	w.forget(vars, height)
}

// enter begins a loop, with the tick ahead of its test.
func (w *writer) enter(label string, at int) {
	w.loops = append(w.loops, loop{label: label, top: len(w.code)})
	w.tick(at)
}

// repeat ends the innermost loop: it goes back to its test, and all that leaves it lands behind.
func (w *writer) repeat(exit int) {
	last := len(w.loops) - 1
	l := w.loops[last]
	w.loops = w.loops[:last]
	w.emit(api.Instr{Op: opJump, C: l.top}, w.code[l.top].at, w.height)
	w.land(exit)
	for _, jump := range l.exits {
		w.land(jump)
	}
}

// jump leads out of the loop that a break means, or to the test of the one that a continue means.
func (w *writer) jump(node api.Node) {
	l := w.loop(node.Text)
	jump := w.emit(api.Instr{Op: opJump, C: l.top}, node.At, w.height)
	if node.Kind == api.NodeBreak {
		l.exits = append(l.exits, jump)
	}
}

// loop is the innermost one around, or the one with a label.
func (w *writer) loop(label string) *loop {
	n := len(w.loops) - 1
	for label != "" && w.loops[n].label != label {
		n--
	}
	return &w.loops[n]
}

// variable is the register of the innermost one of a name; false: it is a global.
func (w *writer) variable(name string) (int, bool) {
	for _, v := range slices.Backward(w.scope) {
		if v.name == name {
			return v.register, true
		}
	}
	return 0, false
}
