package walk

import (
	"casket/api"
	"casket/desk"
)

// run is one that is under way. What it is about to do stands in its frames: it can be left behind each tick, and gone on with later.
// On the stack what was worked out becomes a variable, and arguments become parameters, where they stand.
type run struct {
	*desk.Memory
	desk.Tally
	program *program
	globals map[string]int // their numbers
	frames  []frame        // the outermost first
}

// frame is a function under way.
type frame struct {
	base  int      // where its variables begin in the stack
	names []string // of its variables in scope
	parts []part   // the nodes under way, each within the one ahead
}

// part is a node under way.
type part struct {
	at    int   // its place
	next  int   // what of it comes next: mostly which kid
	vars  int   // how many variables were in scope when it was come to
	i, to int64 // of a for: the next number, and the one that it does not come to
}

// How a run stands behind a piece of it.
const (
	going = iota
	ticked
	ended
)

// newRun is one of a function whose arguments are all that the stack has.
func newRun(p *program, d *desk.Desk, name string, fuel int64) *run {
	r := &run{program: p, Memory: &d.Memory, globals: d.Names.Globals, Tally: desk.NewTally(fuel)}
	r.call(p.funcs[name])
	return r
}

// GoOn goes on till one more tick has been made: true; or to the end.
func (r *run) GoOn() bool {
	for {
		switch r.piece() {
		case ticked:
			return true
		case ended:
			return false
		}
	}
}

// piece does what comes next of the innermost node. It never does a kid's work: that is a part of its own.
func (r *run) piece() int {
	p := r.part()
	switch r.program.nodes[p.at].Kind {
	case api.NodeFunc:
		return r.function(p)
	case api.NodeBlock:
		return r.block(p)
	case api.NodeIf:
		return r.choice(p)
	case api.NodeWhile:
		return r.whileLoop(p)
	case api.NodeFor:
		return r.forLoop(p)
	case api.NodeOr, api.NodeAnd:
		return r.either(p)
	}
	return r.plain(p)
}

func (r *run) frame() *frame { return &r.frames[len(r.frames)-1] }

func (r *run) part() *part {
	parts := r.frame().parts
	return &parts[len(parts)-1]
}

// begin puts a node ahead of all that is under way. Parts may move then.
func (r *run) begin(at int) int {
	f := r.frame()
	f.parts = append(f.parts, part{at: at, vars: len(f.names)})
	return going
}

// beginStatement ticks ahead of all else.
func (r *run) beginStatement(at int) int {
	r.begin(at)
	return r.tick(at)
}

// done takes the innermost node away.
func (r *run) done() int {
	f := r.frame()
	f.parts = f.parts[:len(f.parts)-1]
	return going
}

func (r *run) tick(at int) int {
	if !r.Tick(r.program.nodes[at].At) {
		return ended
	}
	return ticked
}

// refuse ends the run at a node.
func (r *run) refuse(code api.Errno, at int) int {
	r.Refuse(code, r.program.nodes[at].At)
	return ended
}

// call puts a function under way, whose arguments stand on top of the stack.
func (r *run) call(at int) {
	params := r.program.params(at)
	f := frame{base: len(r.Stack) - params, parts: []part{{at: at}}}
	for _, param := range r.program.kids[at][:params] {
		f.names = append(f.names, r.program.nodes[param].Text)
	}
	r.frames = append(r.frames, f)
}

// leave ends the innermost function; what stands on top of the stack is its value.
func (r *run) leave() int {
	value := r.pop()
	r.Stack = append(r.Stack[:r.frame().base], value)
	r.frames = r.frames[:len(r.frames)-1]
	if len(r.frames) == 0 {
		return ended
	}
	return going
}

// forget leaves so many variables in scope. It is asked between statements, where nothing stands above the variables.
func (r *run) forget(vars int) {
	f := r.frame()
	f.names = f.names[:vars]
	r.Stack = r.Stack[:f.base+vars]
}

// variable is where the innermost variable of a name stands.
func (r *run) variable(name string) *uint64 {
	f := r.frame()
	for i := len(f.names) - 1; i >= 0; i-- {
		if f.names[i] == name {
			return &r.Stack[f.base+i]
		}
	}
	return &r.Globals[r.globals[name]]
}

// State is asked behind a tick, where the stack ends with the innermost function's variables.
func (r *run) State() api.State {
	s := r.Made()
	s.Depth = len(r.frames)
	for _, w := range r.Stack[r.frame().base:] {
		s.Vars = append(s.Vars, r.Seen(w))
	}
	return s
}

// End is asked when no function is under way, or one was refused something.
func (r *run) End() (api.End, uint64) {
	end := r.Ended()
	if end.Code != api.OK {
		return end, 0
	}
	return end, r.pop()
}

func (r *run) push(w uint64) { r.Stack = append(r.Stack, w) }

func (r *run) pop() uint64 {
	last := len(r.Stack) - 1
	w := r.Stack[last]
	r.Stack = r.Stack[:last]
	return w
}

// top has the last n words of the stack, where they stand.
func (r *run) top(n int) []uint64 { return r.Stack[len(r.Stack)-n:] }
