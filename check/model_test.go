package check_test

import (
	"slices"
	"strings"

	"casket/api"
	"casket/ops"
)

// The model: each node is asked for itself, and looks from where it stands upwards and ahead; nothing is carried along from node to node.

// part is a node with its kids, and what it stands in.
type part struct {
	node api.Node
	in   *part
	nth  int // of the kids of what it stands in
	kids []*part
}

// grown is the first tree of a right row, and what stands behind it.
func grown(l []api.Node, in *part, nth int) (*part, []api.Node) {
	p, rest := &part{node: l[0], in: in, nth: nth}, l[1:]
	for i := range l[0].Kids {
		var kid *part
		kid, rest = grown(rest, p, i)
		p.kids = append(p.kids, kid)
	}
	return p, rest
}

// all are a part and all that is its own, in the order of the row.
func (p *part) all() []*part {
	list := []*part{p}
	for _, kid := range p.kids {
		list = append(list, kid.all()...)
	}
	return list
}

func (p *part) is(kinds ...int) bool { return slices.Contains(kinds, p.node.Kind) }

func (p *part) last() *part { return p.kids[len(p.kids)-1] }

// outwards are what a part stands in, the innermost first.
func (p *part) outwards() []*part {
	if p.in == nil {
		return nil
	}
	return append([]*part{p.in}, p.in.outwards()...)
}

// ahead are the kids ahead of it of what it stands in.
func (p *part) ahead() []*part { return p.in.kids[:p.nth] }

func named(list []*part, name string, kinds ...int) []*part {
	return slices.DeleteFunc(slices.Clone(list), func(p *part) bool { return !p.is(kinds...) || p.node.Text != name })
}

// means tells whether a name means something at a part.
func (p *part) means(name string) bool {
	in := p.in
	if in == nil {
		return len(named(p.kids, name, api.NodeGlobal)) > 0
	}
	switch in.node.Kind {
	case api.NodeBlock:
		if len(named(p.ahead(), name, api.NodeLet)) > 0 {
			return true
		}
	case api.NodeFor:
		if p == in.last() && in.node.Text == name {
			return true
		}
	case api.NodeFunc:
		if len(named(in.kids, name, api.NodeParam)) > 0 {
			return true
		}
	}
	return in.means(name)
}

// label is a loop's.
func (p *part) label() string {
	if p.is(api.NodeWhile) {
		return p.node.Text
	}
	if p.kids[0].is(api.NodeLabel) {
		return p.kids[0].node.Text
	}
	return ""
}

// loops are the labels of the loops around a part.
func (p *part) loops() []string {
	var list []string
	for _, out := range p.outwards() {
		if out.is(api.NodeWhile, api.NodeFor) {
			list = append(list, out.label())
		}
	}
	return list
}

func (p *part) twice() bool {
	name := p.node.Text
	switch p.node.Kind {
	case api.NodeGlobal, api.NodeFunc:
		_, builtin := ops.Arity(name)
		return builtin || len(named(p.ahead(), name, api.NodeGlobal, api.NodeFunc)) > 0
	case api.NodeParam:
		return len(named(p.ahead(), name, api.NodeParam)) > 0
	case api.NodeLet:
		return len(named(p.ahead(), name, api.NodeLet)) > 0
	case api.NodeWhile:
		return name != "" && slices.Contains(p.loops(), name)
	case api.NodeLabel:
		return slices.Contains(p.in.loops(), name)
	}
	return false
}

// arguments is how many a call must have, -1 if there is nobody of its name.
func (p *part) arguments() int {
	program := p.outwards()[len(p.outwards())-1]
	if own := named(program.kids, p.node.Text, api.NodeFunc); len(own) > 0 {
		return len(own[0].kids) - 1
	}
	if n, ok := ops.Arity(p.node.Text); ok {
		return n
	}
	return -1
}

// faults are all that are wrong with a part, the first first.
func (p *part) faults() []api.Errno {
	var list []api.Errno
	add := func(wrong bool, code api.Errno) {
		if wrong {
			list = append(list, code)
		}
	}
	add(len(p.outwards()) > 256, api.ErrNest)
	add(p.twice(), api.ErrTwice)
	add(p.is(api.NodeName, api.NodeAssign) && !p.means(p.node.Text), api.ErrName)
	add(p.is(api.NodeCall) && p.arguments() < 0, api.ErrName)
	add(p.is(api.NodeParam) && p.nth > 15, api.ErrCount)
	add(p.is(api.NodeCall) && p.arguments() != len(p.kids), api.ErrCount)
	jump := p.is(api.NodeBreak, api.NodeContinue)
	add(jump && len(p.loops()) == 0, api.ErrLoop)
	add(jump && p.node.Text != "" && !slices.Contains(p.loops(), p.node.Text), api.ErrLoop)
	add(p.is(api.NodeWhile, api.NodeFor) && len(p.all()) > 1000, api.ErrSpan)
	return list
}

// constants is how many unlike values a function has.
func (p *part) constants() int {
	var met []api.Node
	for _, one := range p.all() {
		n := one.node
		if one.is(api.NodeInt, api.NodeFloat, api.NodeText) {
			n.At = 0
			if !slices.Contains(met, n) {
				met = append(met, n)
			}
		}
	}
	return len(met)
}

// height is where a part of a function is worked out, by where what it stands in is.
func (p *part) height() int {
	in := p.in
	switch in.node.Kind {
	case api.NodeFunc:
		return len(in.kids) - 1
	case api.NodeBlock:
		h := in.height()
		for _, one := range p.ahead() {
			if one.is(api.NodeLet) {
				h++
			}
		}
		return h
	case api.NodeBinary, api.NodeIndex, api.NodeCall, api.NodeStore:
		return in.height() + p.nth
	case api.NodeFor:
		switch {
		case p == in.last():
			return in.height() + 3
		case p == in.kids[len(in.kids)-2]:
			return in.height() + 1
		}
	}
	return in.height()
}

// isExpression: their kinds stand last in package api's list.
func (p *part) isExpression() bool { return p.node.Kind >= api.NodeOr }

// registers is how many a function needs.
func (p *part) registers() int {
	most := len(p.kids) - 1
	for _, one := range p.last().all() {
		if one.isExpression() {
			most = max(most, one.height()+1)
		}
		if one.is(api.NodeFor) {
			most = max(most, one.height()+3)
		}
	}
	return most
}

// modelFaults are the faults of a right row, with those that stand behind a function there.
func modelFaults(l []api.Node, regs int) []api.Fault {
	var list []api.Fault
	program, _ := grown(l, nil, 0)
	for _, p := range append([]*part{program}, program.kids...) {
		parts := []*part{p}
		if p != program {
			parts = p.all()
		}
		for _, one := range parts {
			for _, code := range one.faults() {
				list = append(list, api.Fault{Code: code, At: one.node.At})
			}
		}
		if p.is(api.NodeFunc) && p.constants() > 64 {
			list = append(list, api.Fault{Code: api.ErrConsts, At: p.node.At})
		}
		if p.is(api.NodeFunc) && p.registers() > regs {
			list = append(list, api.Fault{Code: api.ErrRegs, At: p.node.At})
		}
	}
	return list
}

func modelSites(l []api.Node) []int {
	var places []int
	for _, n := range l {
		if n.Kind == api.NodeBinary && slices.Contains(strings.Fields("+ - * / // % < <= > >= == !="), n.Text) {
			i, _ := slices.BinarySearch(places, n.At)
			places = slices.Insert(places, i, n.At)
		}
	}
	return places
}
