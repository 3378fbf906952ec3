package check

import (
	"casket/api"
	"casket/ops"
)

// deepest is how many nodes may stand above one.
const deepest = 4 * api.MaxNest

// faultOf is what is wrong with a node when it is come to, the first thing alone.
func (p *pass) faultOf(at int) api.Errno {
	node := p.l[at]
	switch {
	case len(p.open) > deepest:
		return api.ErrNest
	case p.isTwice(node):
		return api.ErrTwice
	case p.isNobodys(node):
		return api.ErrName
	case p.isMiscounted(node):
		return api.ErrCount
	case p.isOutside(node):
		return api.ErrLoop
	case p.isLong(at):
		return api.ErrSpan
	}
	return api.OK
}

// faultBehind is what is wrong with a node when all that is its own has been gone through.
func (p *pass) faultBehind(at int) api.Errno {
	switch {
	case p.l[at].Kind != api.NodeFunc:
		return api.OK
	case len(p.consts) > api.MaxConsts:
		return api.ErrConsts
	case p.regs(at) > p.mostRegs:
		return api.ErrRegs
	}
	return api.OK
}

// isTwice is of no NodeFor: its variable is alone in its scope.
func (p *pass) isTwice(node api.Node) bool {
	switch node.Kind {
	case api.NodeGlobal, api.NodeFunc:
		_, isBuiltin := ops.Arity(node.Text)
		return isBuiltin || p.taken.has(node.Text)
	case api.NodeParam, api.NodeLet:
		return p.scopes.innermost().has(node.Text)
	case api.NodeWhile, api.NodeLabel:
		// A for's own loop is around its label already, but has none yet.
		return node.Text != "" && p.isAround(node.Text)
	}
	return false
}

func (p *pass) isNobodys(node api.Node) bool {
	switch node.Kind {
	case api.NodeName, api.NodeAssign:
		return !p.scopes.know(node.Text)
	case api.NodeCall:
		_, known := p.arguments(node.Text)
		return !known
	}
	return false
}

func (p *pass) isMiscounted(node api.Node) bool {
	switch node.Kind {
	case api.NodeParam:
		// Those ahead are unlike: the scope has as many names.
		return len(p.scopes.innermost()) > api.MaxParams-1
	case api.NodeCall:
		n, _ := p.arguments(node.Text)
		return node.Kids != n
	}
	return false
}

func (p *pass) isOutside(node api.Node) bool {
	switch node.Kind {
	case api.NodeBreak, api.NodeContinue:
		return len(p.loops) == 0 || node.Text != "" && !p.isAround(node.Text)
	}
	return false
}

func (p *pass) isLong(at int) bool {
	switch p.l[at].Kind {
	case api.NodeWhile, api.NodeFor:
		return p.span(at) > api.MaxSpan
	}
	return false
}
