package vm

import (
	"casket/api"
	"casket/desk"
)

// run is one that is under way. It can be left behind each tick, and gone on with later.
type run struct {
	*desk.Memory
	desk.Tally
	program *program
	frames  []frame  // the outermost first
	regs    []uint64 // of all frames: a function's begin where its arguments stand among its caller's
	vars    []int    // the registers of the variables in scope, behind a tick
	value   uint64   // what the outermost function was left with
}

// frame is a function under way.
type frame struct {
	*function
	next int      // the instruction that comes next
	base int      // where its registers begin
	regs []uint64 // these, while it is the innermost one
}

// newRun is one of a function whose arguments are all that the stack has.
func newRun(p *program, m *desk.Memory, name string, fuel int64) *run {
	r := &run{Memory: m, Tally: desk.NewTally(fuel), program: p, regs: m.Stack}
	r.enter(p.numbers[name], 0)
	return r
}

// enter puts a function under way.
func (r *run) enter(number, base int) {
	f := &r.program.funcs[number]
	for len(r.regs) < base+f.regs {
		r.regs = append(r.regs, 0)
	}
	r.frames = append(r.frames, frame{function: f, base: base})
}

// frame is the innermost one. Its registers may have moved since it was so the last time.
func (r *run) frame() *frame {
	f := &r.frames[len(r.frames)-1]
	f.regs = r.regs[f.base:]
	return f
}

// GoOn goes on till one more tick has been made: true; or to the end.
func (r *run) GoOn() bool {
frames:
	for {
		f := r.frame()
		for {
			in := &f.code[f.next]
			f.next++
			switch in.Op {
			case opTick:
				return r.tick(f, in)
			case opCall:
				if len(r.frames) == api.MaxDepth {
					r.Refuse(api.ErrDepth, in.at)
					return false
				}
				r.enter(in.C, f.base+in.B)
				continue frames
			case opReturn, opLeave:
				if r.leave(f, in) {
					continue frames
				}
				return false
			}
			if e := r.do(f, in); e != api.OK {
				r.Refuse(e, in.at)
				return false
			}
		}
	}
}

// tick leaves the run where it can be asked.
func (r *run) tick(f *frame, in *instr) bool {
	r.keep(f, in)
	r.vars = in.vars
	return r.Tick(in.at)
}

// keep makes the stack what is needed still while an instruction is done. Its operands need not be among that: whoever is handed them keeps them.
func (r *run) keep(f *frame, in *instr) { r.Stack = r.regs[:f.base+in.live] }

// leave ends the innermost function; false: there was no other one.
func (r *run) leave(f *frame, in *instr) bool {
	r.value = r.Null()
	if in.Op == opReturn {
		r.value = f.regs[in.A]
	}
	r.frames = r.frames[:len(r.frames)-1]
	if len(r.frames) == 0 {
		return false
	}
	caller := r.frame()
	caller.regs[caller.code[caller.next-1].A] = r.value
	return true
}

// State is asked behind a tick.
func (r *run) State() api.State {
	s := r.Made()
	s.Depth = len(r.frames)
	f := r.frame()
	for _, register := range r.vars {
		s.Vars = append(s.Vars, r.Seen(f.regs[register]))
	}
	return s
}

// End is asked when no function is under way, or one was refused something.
func (r *run) End() (api.End, uint64) { return r.Ended(), r.value }
