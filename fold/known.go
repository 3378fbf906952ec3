package fold

import (
	"casket/api"
	"casket/heap"
	"casket/meaning"
	"casket/value"
)

// known is the literal that a node becomes; false: it stays. The row is what has come of its kids.
func known(node api.Node, row []api.Node) (api.Node, bool) {
	v, ok := worth(node, row)
	if !ok {
		return api.Node{}, false
	}
	return maker(v.Kind, node.At)(v)
}

// worth is the value of a node, if that is known ahead.
func worth(node api.Node, row []api.Node) (api.Value, bool) {
	switch node.Kind {
	case api.NodeAnd:
		return joined(row, api.NodeFalse)
	case api.NodeOr:
		return joined(row, api.NodeTrue)
	case api.NodeUnary, api.NodeNot, api.NodeBinary:
		return worked(node, row)
	case api.NodeCall:
		if isPlain(node.Text) {
			return worked(node, row)
		}
	}
	return api.Value{}, false
}

// joined is of two kids: the first, where it is what settles the matter, else the second; both must be truths then.
func joined(row []api.Node, settles int) (api.Value, bool) {
	switch first := row[0]; {
	case first.Kind == settles:
		return meaning.Literal(first), true
	case isTruth(first) && isTruth(row[1]): // a literal has no kids: what stands behind the first is the second
		return meaning.Literal(row[1]), true
	}
	return api.Value{}, false
}

func isTruth(node api.Node) bool { return node.Kind == api.NodeTrue || node.Kind == api.NodeFalse }

// isPlain tells whether a built-in function neither makes a thing nor asks for one alone. No function of a source has such a name.
func isPlain(name string) bool {
	switch name {
	case "int", "float", "text", "num", "len", "sub", "byte", "chr", "bits", "frombits", "kind":
		return true
	}
	return false
}

// worked is what chapter 10 answers, if all of a node's kids are literals and it refuses nothing.
func worked(node api.Node, row []api.Node) (api.Value, bool) {
	if !areLiterals(row) {
		return api.Value{}, false
	}
	// Each node has a heap of its own: what it leaves there is of no use to another one.
	h := heap.Boundless()
	kids, e := boxed(h, row)
	if e != api.OK {
		return api.Value{}, false
	}
	w, e := meaning.Operate(h, node, kids, nil)
	if e != api.OK {
		return api.Value{}, false
	}
	v, e := value.Unbox(h, w)
	return v, e == api.OK
}

func areLiterals(row []api.Node) bool {
	for _, node := range row {
		if !meaning.IsLiteral(node.Kind) {
			return false
		}
	}
	return true
}

// boxed are the words of literals. A string that is too long for a cell has none.
func boxed(h *heap.Heap, row []api.Node) ([]uint64, api.Errno) {
	var words []uint64
	for _, node := range row {
		w, e := value.Box(h, meaning.Literal(node), words)
		if e != api.OK {
			return nil, e
		}
		words = append(words, w)
	}
	return words, api.OK
}
