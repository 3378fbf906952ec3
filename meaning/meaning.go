// Package meaning: what nodes of expressions mean that neither name something nor leave something out: see DOC.md, chapter 15.
package meaning

import (
	"casket/api"
	"casket/heap"
	"casket/ops"
)

// IsLiteral tells whether nodes of a kind are literals.
func IsLiteral(kind int) bool {
	switch kind {
	case api.NodeInt, api.NodeFloat, api.NodeText, api.NodeTrue, api.NodeFalse, api.NodeNil:
		return true
	}
	return false
}

// Literal is the value that a node of a literal means.
func Literal(node api.Node) api.Value {
	switch node.Kind {
	case api.NodeInt:
		return api.Value{Kind: api.Int, Int: node.Int}
	case api.NodeFloat:
		return api.Value{Kind: api.Float, Bits: node.Bits}
	case api.NodeText:
		return api.Value{Kind: api.Text, Text: node.Text}
	case api.NodeTrue:
		return api.Value{Kind: api.Bool, Int: 1}
	case api.NodeFalse:
		return api.Value{Kind: api.Bool}
	}
	return api.Value{Kind: api.Nil}
}

// Operate is what chapter 10 answers, of a node's kids, for an operator, an index, a store or a call of a built-in function.
func Operate(h *heap.Heap, node api.Node, kids, roots []uint64) (uint64, api.Errno) {
	switch node.Kind {
	case api.NodeBinary:
		return ops.Binary(h, node.Text, kids[0], kids[1], roots)
	case api.NodeUnary:
		return ops.Unary(h, node.Text, kids[0], roots)
	case api.NodeNot:
		return ops.Unary(h, "not", kids[0], roots)
	case api.NodeIndex:
		return ops.Builtin(h, "load", kids, roots)
	case api.NodeStore:
		return ops.Builtin(h, "store", kids, roots)
	}
	return ops.Builtin(h, node.Text, kids, roots)
}
