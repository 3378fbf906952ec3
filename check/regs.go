package check

import "casket/api"

// regs is how many registers the function at a place needs.
func (r row) regs(at int) int {
	params := r.l[at].Kids - 1
	return max(params, r.most(at, params))
}

// most is the greatest number that comes up where the node at a place is worked out at a height. It may call itself for kids: what nests too deep has been refused ahead.
func (r row) most(at, height int) int {
	node := r.l[at]
	most := own(node.Kind, height)
	for nth, kid := range r.kids(at) {
		most = max(most, r.most(kid, height+above(node, nth)))
		if r.l[kid].Kind == api.NodeLet {
			// Only blocks have lets: what stands behind one has its variable beneath.
			height++
		}
	}
	return most
}

// own is what a kind of node needs at a height, whatever its kids do.
func own(kind, height int) int {
	switch kind {
	case api.NodeFor:
		return height + 3
	case api.NodeOr, api.NodeAnd, api.NodeNot, api.NodeBinary, api.NodeUnary, api.NodeCall, api.NodeIndex,
		api.NodeName, api.NodeInt, api.NodeFloat, api.NodeText, api.NodeTrue, api.NodeFalse, api.NodeNil:
		return height + 1
	}
	return 0
}

// above is how much higher than a node its kid is worked out.
func above(node api.Node, nth int) int {
	switch node.Kind {
	case api.NodeBinary, api.NodeIndex, api.NodeStore, api.NodeCall:
		return nth
	case api.NodeFor:
		// From the back, as a label may stand ahead: the block, then to.
		switch node.Kids - nth {
		case 1:
			return 3
		case 2:
			return 1
		}
	}
	return 0
}
