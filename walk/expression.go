package walk

import (
	"casket/api"
	"casket/meaning"
)

// either is of a NodeOr or NodeAnd: its second kid is worked out only where the first has not settled it.
func (r *run) either(p *part) int {
	kids := r.program.kids[p.at]
	if p.next > 0 {
		w := r.pop()
		truth, ok := r.Truth(w)
		if !ok {
			return r.refuse(api.ErrType, p.at)
		}
		settles := r.program.nodes[p.at].Kind == api.NodeOr
		if truth == settles || p.next == len(kids) {
			r.push(w)
			return r.done()
		}
	}
	kid := kids[p.next]
	p.next++
	return r.begin(kid)
}

// plain is of a node that works out all its kids, and then does something with them.
func (r *run) plain(p *part) int {
	at, kids := p.at, r.program.kids[p.at]
	if p.next == len(kids) {
		r.done()
		return r.do(at)
	}
	kid := kids[p.next]
	p.next++
	return r.begin(kid)
}

// do is asked when all kids of a node have been worked out: they stand on top of the stack, the last one uppermost.
func (r *run) do(at int) int {
	node := r.program.nodes[at]
	switch node.Kind {
	case api.NodeName:
		r.push(*r.variable(node.Text))
	case api.NodeLet:
		f := r.frame()
		f.names = append(f.names, node.Text) // the value stands in the variable's place already
	case api.NodeAssign:
		w := r.pop()
		*r.variable(node.Text) = w
	case api.NodeExpr:
		r.pop()
	case api.NodeOut:
		return r.tell(at)
	case api.NodeReturn:
		if node.Kids == 0 {
			r.push(r.Null())
		}
		return r.leave()
	case api.NodeBreak, api.NodeContinue:
		return r.jump(at)
	case api.NodeCall:
		return r.callOf(at)
	case api.NodeBinary, api.NodeUnary, api.NodeNot, api.NodeIndex, api.NodeStore:
		return r.operate(at)
	default:
		return r.literal(at)
	}
	return going
}

// literal is boxed each time: its cell may have gone since the last one.
func (r *run) literal(at int) int {
	w, e := r.Box(meaning.Literal(r.program.nodes[at]))
	if e != api.OK {
		return r.refuse(e, at)
	}
	r.push(w)
	return going
}

// callOf calls a function of the source, or a built-in one: no name is both.
func (r *run) callOf(at int) int {
	function, own := r.program.funcs[r.program.nodes[at].Text]
	if !own {
		return r.operate(at)
	}
	if len(r.frames) == api.MaxDepth {
		return r.refuse(api.ErrDepth, at)
	}
	r.call(function)
	return going
}

// operate puts what chapter 10 answers of a node's kids in their place.
func (r *run) operate(at int) int {
	node := r.program.nodes[at]
	w, e := meaning.Operate(r.Heap, node, r.top(node.Kids), r.Roots())
	if e != api.OK {
		return r.refuse(e, at)
	}
	r.Stack = r.Stack[:len(r.Stack)-node.Kids]
	if node.Kind != api.NodeStore { // a statement leaves nothing
		r.push(w)
	}
	return going
}
