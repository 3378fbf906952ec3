package walk

import (
	"casket/api"
	"casket/ops"
)

// What comes next of a function.
const (
	functionTick = iota
	functionBlock
	functionEnd
)

func (r *run) function(p *part) int {
	kids := r.program.kids[p.at]
	switch p.next {
	case functionTick:
		p.next = functionBlock
		return r.tick(p.at)
	case functionBlock:
		p.next = functionEnd
		return r.begin(kids[len(kids)-1])
	}
	r.push(r.Null())
	return r.leave()
}

func (r *run) block(p *part) int {
	kids := r.program.kids[p.at]
	if p.next == len(kids) {
		r.forget(p.vars)
		return r.done()
	}
	kid := kids[p.next]
	p.next++
	return r.beginStatement(kid)
}

// What comes next of an if.
const (
	choiceCondition = iota
	choiceBranch
	choiceEnd
)

func (r *run) choice(p *part) int {
	kids := r.program.kids[p.at]
	switch p.next {
	case choiceCondition:
		p.next = choiceBranch
		return r.begin(kids[0])
	case choiceBranch:
		p.next = choiceEnd
		return r.branch(p.at, kids[1:])
	}
	return r.done()
}

// branch goes into a block, or into what stands behind else.
func (r *run) branch(at int, ways []int) int {
	truth, ok := r.Truth(r.pop())
	switch {
	case !ok:
		return r.refuse(api.ErrType, at)
	case truth:
		return r.begin(ways[0])
	case len(ways) == 1:
		return going
	case r.program.nodes[ways[1]].Kind == api.NodeIf:
		return r.beginStatement(ways[1])
	}
	return r.begin(ways[1])
}

// What comes next of a while.
const (
	whileTick = iota
	whileCondition
	whileBlock
)

func (r *run) whileLoop(p *part) int {
	kids := r.program.kids[p.at]
	switch p.next {
	case whileTick:
		p.next = whileCondition
		return r.tick(p.at)
	case whileCondition:
		p.next = whileBlock
		return r.begin(kids[0])
	}
	p.next = whileTick
	truth, ok := r.Truth(r.pop())
	switch {
	case !ok:
		return r.refuse(api.ErrType, p.at)
	case !truth:
		return r.done()
	}
	return r.begin(kids[1])
}

// What comes next of a for.
const (
	forFrom = iota
	forTo
	forBounds
	forTick
	forBlock
)

func (r *run) forLoop(p *part) int {
	kids := r.program.kids[p.at]
	kids = kids[len(kids)-3:] // a label may stand ahead
	switch p.next {
	case forFrom:
		p.next = forTo
		return r.begin(kids[0])
	case forTo:
		p.next = forBounds
		return r.begin(kids[1])
	case forBounds:
		p.next = forTick
		return r.bounds(p)
	case forTick:
		p.next = forBlock
		r.forget(p.vars)
		return r.tick(p.at)
	}
	if p.i >= p.to {
		return r.done()
	}
	p.next = forTick
	return r.round(p, kids[2])
}

// bounds takes from and to from the stack.
func (r *run) bounds(p *part) int {
	to, from := r.pop(), r.pop()
	var e api.Errno
	if p.i, p.to, e = r.Bounds(from, to); e != api.OK {
		return r.refuse(e, p.at)
	}
	return going
}

// round goes through a for's block once more, with a new variable.
func (r *run) round(p *part, block int) int {
	f := r.frame()
	w, _ := r.Box(api.Value{Kind: api.Int, Int: p.i}) // small, as from and to are
	p.i++
	r.push(w)
	f.names = append(f.names, r.program.nodes[p.at].Text)
	return r.begin(block)
}

// jump leaves the loop that a break or continue means, or all that is under way within it: what comes next of it is its test then.
func (r *run) jump(at int) int {
	node, f := r.program.nodes[at], r.frame()
	n := len(f.parts) - 1
	for !r.means(node.Text, f.parts[n].at) {
		n--
	}
	r.forget(f.parts[n].vars)
	if node.Kind == api.NodeContinue {
		n++
	}
	f.parts = f.parts[:n]
	return going
}

// means tells whether a node is a loop that a label means; none means each.
func (r *run) means(label string, at int) bool {
	switch r.program.nodes[at].Kind {
	case api.NodeWhile, api.NodeFor:
		return label == "" || r.program.label(at) == label
	}
	return false
}

// tell makes what stands on top of the stack one more line.
func (r *run) tell(at int) int {
	line, e := ops.Told(r.Heap, r.pop())
	if e == api.OK {
		e = r.Tell(line)
	}
	if e != api.OK {
		return r.refuse(e, at)
	}
	return going
}
