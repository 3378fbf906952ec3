package vm

import "casket/api"

// What instructions do. A, B and C are registers, where nothing else is said; a C that is told to come next is an instruction's place.
const (
	opTick     = iota // a tick
	opMove            // A becomes B
	opConst           // A becomes the constant of number B
	opGet             // A becomes the global of number B
	opPut             // the global of number B becomes A
	opUnary           // A becomes what the operator of number C makes of B
	opLoad            // A becomes the element C of B
	opStore           // the element B of A becomes C
	opBuiltin         // A becomes what the built-in function of number C makes of B and those behind it
	opCall            // A becomes what the function of number C makes of B and those behind it
	opReturn          // the function is left with A
	opLeave           // the function is left with nil
	opOut             // A is told
	opOr              // if B is true, A becomes B, and C comes next
	opAnd             // if B is false, A becomes B, and C comes next
	opTruth           // A becomes B, which is a truth
	opUnless          // if A is false, C comes next
	opJump            // C comes next
	opBounds          // A and the one behind it are what a for goes from and to
	opRound           // if A is not below the one behind it, C comes next; else the one behind that becomes A, and A is one more
	opOperator        // from here on: A becomes what an operator makes of B and C
)

// The operators of two.
const (
	plus = iota
	minus
	times
	by
	floorBy
	rest
	less
	lessEq
	more
	moreEq
	equal
	unequal
	bitAnd
	bitOr
	bitXor
	left
	right
	operatorCount
)

var operators = [operatorCount]string{
	plus: "+", minus: "-", times: "*", by: "/", floorBy: "//", rest: "%",
	less: "<", lessEq: "<=", more: ">", moreEq: ">=", equal: "==", unequal: "!=",
	bitAnd: "&", bitOr: "|", bitXor: "^", left: "<<", right: ">>",
}

// The operators of one.
var unaries = [...]string{"-", "~", "not"}

// opOf is what an operator's instruction does in a form: each form has its own.
func opOf(operator, form int) int { return opOperator + form*operatorCount + operator }

// operatorOf is whose instruction it is, whatever the form.
func operatorOf(op int) int { return (op - opOperator) % operatorCount }

// instr is an instruction, and what a run needs to know of it beside.
type instr struct {
	api.Instr
	at   int   // the place in the source that is told of it
	live int   // so many registers are in use beneath what it works out
	vars []int // of a tick: the registers of the variables in scope, in the order in which they came
}

// constant is a literal's value.
type constant struct {
	value api.Value
	word  uint64 // of the value, if that needs no cell
	cell  bool   // it needs one: each time a new one, as the last one may have gone
}

// function is one of the source, as code.
type function struct {
	code   []instr
	consts []constant
	regs   int
}

// builtin is a built-in function that is called somewhere, with so many arguments.
type builtin struct {
	name  string
	arity int
}
