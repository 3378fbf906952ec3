package walk

import "casket/api"

// run is one that is under way. What it is about to do stands in its frames: it can be left behind each tick, and gone on with later.
type run struct {
	*memory
	program *program
	frames  []frame // the outermost first
	fuel    int64
	at      int     // the place of the node that ticked last
	end     api.End // how it would end here
	bytes   int     // of the lines told, with one more for each
}

// frame is a function under way.
type frame struct {
	base  int      // where its variables begin in the stack
	names []string // of its variables in scope
	parts []part   // the nodes under way, each within the one ahead
}

// part is a node under way.
type part struct {
	at    int   // its place
	next  int   // what of it comes next: mostly which kid
	vars  int   // how many variables were in scope when it was come to
	i, to int64 // of a for: the next number, and the one that it does not come to
}

// How a run stands behind a piece of it.
const (
	going = iota
	ticked
	ended
)

// newRun is one of a function whose arguments are all that the stack has.
func newRun(p *program, m *memory, at int, fuel int64) *run {
	r := &run{program: p, memory: m, fuel: fuel}
	r.call(at)
	return r
}

// goOn goes on till one more tick has been made: true; or to the end.
func (r *run) goOn() bool {
	for {
		switch r.piece() {
		case ticked:
			return true
		case ended:
			return false
		}
	}
}

// piece does what comes next of the innermost node. It never does a kid's work: that is a part of its own.
func (r *run) piece() int {
	p := r.part()
	switch r.program.nodes[p.at].Kind {
	case api.NodeFunc:
		return r.function(p)
	case api.NodeBlock:
		return r.block(p)
	case api.NodeIf:
		return r.choice(p)
	case api.NodeWhile:
		return r.whileLoop(p)
	case api.NodeFor:
		return r.forLoop(p)
	case api.NodeOr, api.NodeAnd:
		return r.either(p)
	}
	return r.plain(p)
}

func (r *run) frame() *frame { return &r.frames[len(r.frames)-1] }

func (r *run) part() *part {
	parts := r.frame().parts
	return &parts[len(parts)-1]
}

// begin puts a node ahead of all that is under way. Parts may move then.
func (r *run) begin(at int) int {
	f := r.frame()
	f.parts = append(f.parts, part{at: at, vars: len(f.names)})
	return going
}

// beginStatement ticks ahead of all else.
func (r *run) beginStatement(at int) int {
	r.begin(at)
	return r.tick(at)
}

// done takes the innermost node away.
func (r *run) done() int {
	f := r.frame()
	f.parts = f.parts[:len(f.parts)-1]
	return going
}

func (r *run) tick(at int) int {
	if r.end.Ticks == r.fuel {
		return r.refuse(api.ErrFuel, at)
	}
	r.end.Ticks++
	r.at = at
	return ticked
}

// refuse ends the run at a node.
func (r *run) refuse(code api.Errno, at int) int {
	r.end.Code, r.end.At = code, r.program.nodes[at].At
	return ended
}

// call puts a function under way, whose arguments stand on top of the stack.
func (r *run) call(at int) {
	params := r.program.params(at)
	f := frame{base: len(r.stack) - params, parts: []part{{at: at}}}
	for _, param := range r.program.kids[at][:params] {
		f.names = append(f.names, r.program.nodes[param].Text)
	}
	r.frames = append(r.frames, f)
}

// leave ends the innermost function; what stands on top of the stack is its value.
func (r *run) leave() int {
	value := r.pop()
	r.stack = append(r.stack[:r.frame().base], value)
	r.frames = r.frames[:len(r.frames)-1]
	if len(r.frames) == 0 {
		return ended
	}
	return going
}

// forget leaves so many variables in scope. It is asked between statements, where nothing stands above the variables.
func (r *run) forget(vars int) {
	f := r.frame()
	f.names = f.names[:vars]
	r.stack = r.stack[:f.base+vars]
}

// variable is where the innermost variable of a name stands.
func (r *run) variable(name string) *uint64 {
	f := r.frame()
	for i := len(f.names) - 1; i >= 0; i-- {
		if f.names[i] == name {
			return &r.stack[f.base+i]
		}
	}
	return &r.globals[r.program.globals[name]]
}

// state is asked behind a tick, where the stack ends with the innermost function's variables.
func (r *run) state() api.State {
	s := api.State{Ticks: r.end.Ticks, Depth: len(r.frames), At: r.program.nodes[r.at].At, Out: len(r.end.Out)}
	for _, w := range r.stack[r.frame().base:] {
		s.Vars = append(s.Vars, r.seen(w))
	}
	return s
}
