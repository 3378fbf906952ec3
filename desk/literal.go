package desk

import "casket/api"

// Literal is the value that a node of a literal means.
func Literal(node api.Node) api.Value {
	switch node.Kind {
	case api.NodeInt:
		return api.Value{Kind: api.Int, Int: node.Int}
	case api.NodeFloat:
		return api.Value{Kind: api.Float, Bits: node.Bits}
	case api.NodeText:
		return api.Value{Kind: api.Text, Text: node.Text}
	case api.NodeTrue:
		return api.Value{Kind: api.Bool, Int: 1}
	case api.NodeFalse:
		return api.Value{Kind: api.Bool}
	}
	return api.Value{Kind: api.Nil}
}
