package vm

import (
	"casket/api"
	"casket/ops"
	"casket/site"
)

// do does an instruction that stays within its function.
func (r *run) do(f *frame, in *instr) api.Errno {
	switch in.Op {
	case opMove:
		f.regs[in.A] = f.regs[in.B]
	case opGet:
		f.regs[in.A] = r.Globals[in.B]
	case opPut:
		r.Globals[in.B] = f.regs[in.A]
	case opJump:
		f.next = in.C
	case opOr:
		return r.either(f, in, true)
	case opAnd:
		return r.either(f, in, false)
	case opTruth:
		if _, ok := r.Truth(f.regs[in.B]); !ok {
			return api.ErrType
		}
		f.regs[in.A] = f.regs[in.B]
	case opUnless:
		return r.unless(f, in)
	case opBounds:
		_, _, e := r.Bounds(f.regs[in.A], f.regs[in.A+1])
		return e
	case opRound:
		r.round(f, in)
	case opOut:
		return r.tell(f.regs[in.A])
	case opStore:
		_, e := r.ask(f, in, "store", f.regs[in.A], f.regs[in.B], f.regs[in.C])
		return e
	default:
		w, e := r.outcome(f, in)
		if e != api.OK {
			return e
		}
		f.regs[in.A] = w
	}
	return api.OK
}

// either leads past the second operand, if the first one is what settles it.
func (r *run) either(f *frame, in *instr, settles bool) api.Errno {
	truth, ok := r.Truth(f.regs[in.B])
	if !ok {
		return api.ErrType
	}
	if truth == settles {
		f.regs[in.A] = f.regs[in.B]
		f.next = in.C
	}
	return api.OK
}

func (r *run) unless(f *frame, in *instr) api.Errno {
	truth, ok := r.Truth(f.regs[in.A])
	if !ok {
		return api.ErrType
	}
	if !truth {
		f.next = in.C
	}
	return api.OK
}

// round goes through a for's block once more, or leaves it. What is counted stays small: it never gets above what it goes to.
func (r *run) round(f *frame, in *instr) {
	i, end, _ := r.Bounds(f.regs[in.A], f.regs[in.A+1])
	if i >= end {
		f.next = in.C
		return
	}
	f.regs[in.A+2] = f.regs[in.A]
	f.regs[in.A], _ = r.program.light(api.Value{Kind: api.Int, Int: i + 1})
}

func (r *run) tell(w uint64) api.Errno {
	line, e := ops.Told(r.Heap, w)
	if e != api.OK {
		return e
	}
	return r.Tell(line)
}

// outcome is what an instruction works out.
func (r *run) outcome(f *frame, in *instr) (uint64, api.Errno) {
	switch in.Op {
	case opConst:
		return r.constant(f, in)
	case opUnary:
		r.keep(f, in)
		return ops.Unary(r.Heap, unaries[in.C], f.regs[in.B], r.Roots())
	case opLoad:
		return r.ask(f, in, "load", f.regs[in.B], f.regs[in.C])
	case opBuiltin:
		b := r.program.builtins[in.C]
		return r.ask(f, in, b.name, f.regs[in.B:in.B+b.arity]...)
	}
	return r.operate(f, in)
}

func (r *run) constant(f *frame, in *instr) (uint64, api.Errno) {
	c := f.consts[in.B]
	if !c.cell {
		return c.word, api.OK
	}
	r.keep(f, in)
	return r.Box(c.value)
}

// ask is what a built-in function answers.
func (r *run) ask(f *frame, in *instr, name string, args ...uint64) (uint64, api.Errno) {
	r.keep(f, in)
	return ops.Builtin(r.Heap, name, args, r.Roots())
}

// operate is what an operator makes of its operands.
func (r *run) operate(f *frame, in *instr) (uint64, api.Errno) {
	a, b := f.regs[in.B], f.regs[in.C]
	if in.Site >= 0 {
		if w, ok := r.quick(in, a, b); ok {
			return w, api.OK
		}
	}
	r.keep(f, in)
	return ops.Binary(r.Heap, operators[operatorOf(in.Op)], a, b, r.Roots())
}

// quick tells the instruction's site of its operands, and does it in the form in which it stands; false: the site says that it is done in the generic one, or it gives up.
func (r *run) quick(in *instr, a, b uint64) (uint64, bool) {
	do := r.program.fast[in.Op-opOperator] // found first: the site may have it rewritten
	if r.program.on(in, site.Pair(a, b)) == api.Generic {
		return 0, false
	}
	v, ok := do(r.Unbox(a), r.Unbox(b))
	if !ok {
		return 0, false
	}
	return r.program.light(v)
}
