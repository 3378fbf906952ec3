package fold_test

import (
	"slices"

	"casket/api"
	"casket/check"
	"casket/heap"
	"casket/ops"
	"casket/value"
)

// The model folds a row from its back: what stands in a node is behind it there. It asks chapter 10 in a heap with the most units there are.

// modelFold is of a tree that Check takes.
func modelFold(l []api.Node) []api.Node {
	row := slices.Clone(l)
	for i := len(row) - 1; i >= 0; i-- {
		end := modelEnd(row, i)
		if literal, ok := modelLiteral(row[i], row[i+1:end]); ok {
			row = slices.Replace(row, i, end, literal)
		}
	}
	if check.Check(row) != (api.Fault{}) {
		return l
	}
	return row
}

// modelEnd is the place behind a node and all that is its own.
func modelEnd(row []api.Node, i int) int {
	for missing := 1; missing > 0; i++ {
		missing += row[i].Kids - 1
	}
	return i
}

// modelLiteral is 19.2, point by point.
func modelLiteral(node api.Node, kids []api.Node) (api.Node, bool) {
	literal := api.Node{At: node.At}
	switch node.Kind {
	case api.NodeAnd, api.NodeOr:
		settles := map[int]int{api.NodeAnd: api.NodeFalse, api.NodeOr: api.NodeTrue}[node.Kind]
		other := api.NodeTrue + api.NodeFalse - settles
		switch {
		case kids[0].Kind == settles:
			literal.Kind = settles
		case kids[0].Kind == other && (kids[1].Kind == settles || kids[1].Kind == other):
			literal.Kind = kids[1].Kind
		default:
			return api.Node{}, false
		}
		return literal, true
	case api.NodeUnary, api.NodeNot, api.NodeBinary:
	case api.NodeCall:
		if !slices.Contains(foldedFunctions, node.Text) {
			return api.Node{}, false
		}
	default:
		return api.Node{}, false
	}
	if slices.ContainsFunc(kids, func(kid api.Node) bool { return kid.Kind < api.NodeInt }) {
		return api.Node{}, false
	}
	v, e := modelAnswer(node, kids)
	if e != api.OK || !modelHasLiteral(v) {
		return api.Node{}, false
	}
	literal.Kind = []int{api.NodeNil, api.NodeFalse, api.NodeInt, api.NodeFloat, api.NodeText}[v.Kind]
	literal.Int, literal.Bits, literal.Text = v.Int, v.Bits, v.Text
	if v.Kind == api.Bool && v.Int == 1 {
		literal.Kind, literal.Int = api.NodeTrue, 0
	}
	return literal, true
}

// foldedFunctions are those of 19.2.
var foldedFunctions = []string{"int", "float", "text", "num", "len", "sub", "byte", "chr", "bits", "frombits", "kind"}

// modelHasLiteral is 19.1.
func modelHasLiteral(v api.Value) bool {
	switch v.Kind {
	case api.Int:
		return v.Int >= 0
	case api.Float:
		return int64(v.Bits) >= 0
	case api.Text:
		return len(v.Text) <= 1000
	}
	return v.Kind == api.Nil || v.Kind == api.Bool
}

// modelAnswer is what chapter 10 says of literals.
func modelAnswer(node api.Node, kids []api.Node) (api.Value, api.Errno) {
	h, _ := heap.New(api.MaxUnits)
	var words []uint64
	for _, kid := range kids {
		v := api.Value{Int: kid.Int, Bits: kid.Bits, Text: kid.Text}
		v.Kind = []int{api.Int, api.Float, api.Text, api.Bool, api.Bool, api.Nil}[kid.Kind-api.NodeInt]
		if kid.Kind == api.NodeTrue {
			v.Int = 1
		}
		w, e := value.Box(h, v, words)
		if e != api.OK {
			return api.Value{}, e
		}
		words = append(words, w)
	}
	w, e := uint64(0), api.OK
	switch node.Kind {
	case api.NodeUnary:
		w, e = ops.Unary(h, node.Text, words[0], nil)
	case api.NodeNot:
		w, e = ops.Unary(h, "not", words[0], nil)
	case api.NodeBinary:
		w, e = ops.Binary(h, node.Text, words[0], words[1], nil)
	default:
		w, e = ops.Builtin(h, node.Text, words, nil)
	}
	if e != api.OK {
		return api.Value{}, e
	}
	return value.Unbox(h, w)
}
