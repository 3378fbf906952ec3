package tree

import (
	"slices"

	"casket/api"
)

// branch is a node with its kids, as long as a tree grows: a left kid is there ahead of the node that stands ahead of it in the row.
type branch struct {
	node api.Node
	kids []*branch
}

// at is a branch that has nothing of its token but the place.
func at(kind int, token api.Token, kids ...*branch) *branch {
	return &branch{node: api.Node{Kind: kind, At: token.At}, kids: kids}
}

// of is a branch that has what its token has.
func of(kind int, token api.Token, kids ...*branch) *branch {
	return &branch{node: api.Node{Kind: kind, At: token.At, Text: token.Text, Int: token.Int, Bits: token.Bits}, kids: kids}
}

// row lays a tree out. What is left to lay out stands in a list, not in calls: it may be deep.
func (b *branch) row() []api.Node {
	var row []api.Node
	left := []*branch{b}
	for len(left) > 0 {
		next := left[len(left)-1]
		left = left[:len(left)-1]
		node := next.node
		node.Kids = len(next.kids)
		row = append(row, node)
		for _, kid := range slices.Backward(next.kids) {
			left = append(left, kid)
		}
	}
	return row
}
