package check

import (
	"slices"

	"casket/api"
	"casket/ops"
	"casket/tree"
)

// pass is one way through a tree, in the order of its row.
type pass struct {
	row
	mostRegs int            // that a function may need
	params   map[string]int // how many a function has, wherever it stands
	taken    scope          // the names of globals and functions so far
	open     []open         // the nodes above, the program first
	scopes   scopes
	loops    []string         // the labels of the loops around, the outermost first; empty where there is none
	consts   map[api.Node]int // how often the function has each, places aside
}

// open is a node that is not left yet, and how many scopes and loops there were when it was come to.
type open struct{ at, scopes, loops int }

// firstFault is the first thing that is wrong with a tree whose functions may need so many registers.
func firstFault(l []api.Node, mostRegs int) api.Fault {
	if _, e := tree.Print(l); e != api.OK {
		return api.Fault{Code: api.ErrShape}
	}
	return newPass(rowOf(l), mostRegs).fault()
}

// newPass looks ahead: globals and functions are known in front of where they stand, too.
func newPass(r row, mostRegs int) *pass {
	globals := scope{}
	params := map[string]int{}
	for _, at := range r.kids(0) {
		node := r.l[at]
		if node.Kind == api.NodeGlobal {
			globals[node.Text] = at
			continue
		}
		// A second one is a fault where it stands: calls ahead of it are of the first.
		if _, twice := params[node.Text]; !twice {
			params[node.Text] = node.Kids - 1
		}
	}
	return &pass{row: r, mostRegs: mostRegs, params: params, taken: scope{}, scopes: scopes{globals}, consts: map[api.Node]int{}}
}

func (p *pass) fault() api.Fault {
	var fault api.Fault
nodes:
	for at := range p.l {
		if code := p.faultOf(at); code != api.OK {
			fault = api.Fault{Code: code, At: p.l[at].At}
			break nodes
		}
		p.enter(at)
		for p.hasDone(at) {
			left := p.leave()
			if code := p.faultBehind(left); code != api.OK {
				fault = api.Fault{Code: code, At: p.l[left].At}
				break nodes
			}
		}
	}
	return fault
}

// hasDone tells whether the innermost open node has nothing behind a place.
func (p *pass) hasDone(at int) bool {
	return len(p.open) > 0 && p.ends[p.open[len(p.open)-1].at] == at+1
}

// enter notes what holds from a node on.
func (p *pass) enter(at int) {
	node := p.l[at]
	p.open = append(p.open, open{at: at, scopes: len(p.scopes), loops: len(p.loops)})
	switch node.Kind {
	case api.NodeGlobal:
		p.taken[node.Text] = at
	case api.NodeFunc:
		p.taken[node.Text] = at
		p.scopes = append(p.scopes, scope{})
		clear(p.consts)
	case api.NodeParam:
		p.scopes.innermost()[node.Text] = at
	case api.NodeBlock:
		p.enterBlock()
	case api.NodeWhile:
		p.loops = append(p.loops, node.Text)
	case api.NodeFor:
		p.loops = append(p.loops, "")
	case api.NodeLabel:
		p.loops[len(p.loops)-1] = node.Text
	case api.NodeInt, api.NodeFloat, api.NodeText:
		node.At = 0
		p.consts[node]++
	}
}

// enterBlock makes a for's scope here, not at the for: in its bounds the variable is not known.
func (p *pass) enterBlock() {
	around := p.open[len(p.open)-2].at
	if node := p.l[around]; node.Kind == api.NodeFor {
		p.scopes = append(p.scopes, scope{node.Text: around})
	}
	p.scopes = append(p.scopes, scope{})
}

// leave is the place of the innermost open node, which is left; what held within it holds no more.
func (p *pass) leave() int {
	last := p.open[len(p.open)-1]
	p.open = p.open[:len(p.open)-1]
	p.scopes = p.scopes[:last.scopes]
	p.loops = p.loops[:last.loops]
	if node := p.l[last.at]; node.Kind == api.NodeLet {
		// Not when it was come to: in its own value the variable is not known.
		p.scopes.innermost()[node.Text] = last.at
	}
	return last.at
}

// arguments is how many a call of a name has; false: no function has the name.
func (p *pass) arguments(name string) (int, bool) {
	if n, known := p.params[name]; known {
		return n, true
	}
	return ops.Arity(name)
}

// isAround tells whether a loop around has a label.
func (p *pass) isAround(label string) bool { return slices.Contains(p.loops, label) }
