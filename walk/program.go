package walk

import (
	"slices"

	"casket/api"
	"casket/tree"
)

// program is a tree, and what a run asks of it again and again.
type program struct {
	nodes []api.Node
	kids  [][]int        // the places of each node's kids
	funcs map[string]int // their places
}

func newProgram(l []api.Node) program {
	p := program{nodes: l, kids: make([][]int, len(l)), funcs: map[string]int{}}
	for at := range l {
		p.kids[at] = slices.Collect(tree.Kids(l, at))
	}
	for _, at := range p.kids[0] {
		if l[at].Kind == api.NodeFunc {
			p.funcs[l[at].Text] = at
		}
	}
	return p
}

// params is how many parameters a function has: its last kid is its block.
func (p *program) params(at int) int { return len(p.kids[at]) - 1 }

// label is that of a loop, or none.
func (p *program) label(at int) string {
	if p.nodes[at].Kind == api.NodeWhile {
		return p.nodes[at].Text
	}
	if first := p.nodes[p.kids[at][0]]; first.Kind == api.NodeLabel {
		return first.Text
	}
	return ""
}
