package check

import (
	"iter"

	"casket/api"
)

// row is a tree, with the place behind each node and all that is its own.
type row struct {
	l    []api.Node
	ends []int
}

// rowOf goes from the back: kids stand behind their node, so where they end is known when it is come to.
func rowOf(l []api.Node) row {
	ends := make([]int, len(l))
	for at := len(l) - 1; at >= 0; at-- {
		end := at + 1
		for range l[at].Kids {
			end = ends[end]
		}
		ends[at] = end
	}
	return row{l: l, ends: ends}
}

// kids goes through a node's kids: which one, from 0 on, and its place. (Chapter 12's Kids goes through all that is theirs, too, each time it is asked.)
func (r row) kids(at int) iter.Seq2[int, int] {
	return func(yield func(int, int) bool) {
		kid := at + 1
		for nth := range r.l[at].Kids {
			if !yield(nth, kid) {
				return
			}
			kid = r.ends[kid]
		}
	}
}

// span is how many nodes a node is, with all that is its own.
func (r row) span(at int) int { return r.ends[at] - at }
