package tree

import (
	"math"

	"casket/api"
	"casket/lex"
)

// Sorts of nodes: which ones may stand in one place.
const (
	aProgram = 1 + iota
	aUnit    // what a program has
	aParameter
	aBlock
	aStatement
	aLabel
	anExpression
)

// What a node's Text is.
const (
	noText = iota
	aName
	aNameOrNone
	aBinary
	aUnary
	anyText
)

const many = math.MaxInt

// rule is what a kind of node must keep to.
type rule struct {
	sort, text  int
	least, most int // kids
}

// ruleOf has no sort for what is no kind: that may stand nowhere.
func ruleOf(kind int) rule {
	switch kind {
	case api.NodeProgram:
		return rule{aProgram, noText, 0, many}
	case api.NodeGlobal:
		return rule{aUnit, aName, 0, 0}
	case api.NodeFunc:
		return rule{aUnit, aName, 1, many}
	case api.NodeParam:
		return rule{aParameter, aName, 0, 0}
	case api.NodeBlock:
		return rule{aBlock, noText, 0, many}
	case api.NodeLet, api.NodeAssign:
		return rule{aStatement, aName, 1, 1}
	case api.NodeStore:
		return rule{aStatement, noText, 3, 3}
	case api.NodeIf:
		return rule{aStatement, noText, 2, 3}
	case api.NodeWhile:
		return rule{aStatement, aNameOrNone, 2, 2}
	case api.NodeFor:
		return rule{aStatement, aName, 3, 4}
	case api.NodeLabel:
		return rule{aLabel, aName, 0, 0}
	case api.NodeBreak, api.NodeContinue:
		return rule{aStatement, aNameOrNone, 0, 0}
	case api.NodeReturn:
		return rule{aStatement, noText, 0, 1}
	case api.NodeOut, api.NodeExpr:
		return rule{aStatement, noText, 1, 1}
	case api.NodeOr, api.NodeAnd, api.NodeIndex:
		return rule{anExpression, noText, 2, 2}
	case api.NodeNot:
		return rule{anExpression, noText, 1, 1}
	case api.NodeBinary:
		return rule{anExpression, aBinary, 2, 2}
	case api.NodeUnary:
		return rule{anExpression, aUnary, 1, 1}
	case api.NodeCall:
		return rule{anExpression, aName, 0, many}
	case api.NodeName:
		return rule{anExpression, aName, 0, 0}
	case api.NodeText:
		return rule{anExpression, anyText, 0, 0}
	case api.NodeInt, api.NodeFloat, api.NodeTrue, api.NodeFalse, api.NodeNil:
		return rule{anExpression, noText, 0, 0}
	}
	return rule{}
}

// above is the place of a node of which kids are to come, and how many have come.
type above struct{ at, met int }

// isTree tells whether a row is one that Parse could answer. It goes through the row once; what is above a node stands in a list, not in calls: it may be deep.
func isTree(l []api.Node) bool {
	if len(l) == 0 || l[0].Kind != api.NodeProgram || !fits(l[0]) {
		return false
	}
	path := []above{{}}
	for at := 1; at < len(l); at++ {
		path = rise(l, path)
		if len(path) == 0 {
			return false
		}
		top := &path[len(path)-1]
		if !fits(l[at]) || !mayStand(l[top.at], top.met, l[at].Kind) {
			return false
		}
		top.met++
		path = append(path, above{at: at})
	}
	return len(rise(l, path)) == 0
}

// rise leaves the nodes that have all their kids.
func rise(l []api.Node, path []above) []above {
	for len(path) > 0 {
		top := path[len(path)-1]
		if top.met < l[top.at].Kids {
			break
		}
		path = path[:len(path)-1]
	}
	return path
}

// mayStand tells whether a node's k-th kid, from 0 on, may be of that kind.
func mayStand(node api.Node, k, kind int) bool {
	if node.Kind == api.NodeIf && k == 2 && kind == api.NodeIf {
		return true
	}
	return ruleOf(kind).sort == sortOfKid(node, k)
}

func sortOfKid(node api.Node, k int) int {
	last := k == node.Kids-1
	switch node.Kind {
	case api.NodeProgram:
		return aUnit
	case api.NodeFunc:
		if !last {
			return aParameter
		}
		return aBlock
	case api.NodeBlock:
		return aStatement
	case api.NodeIf:
		if k > 0 {
			return aBlock
		}
	case api.NodeWhile:
		if last {
			return aBlock
		}
	case api.NodeFor:
		if last {
			return aBlock
		}
		if k == 0 && node.Kids == 4 {
			return aLabel
		}
	}
	return anExpression
}

// fits tells whether a node has what a node of its kind has, whatever its kids are.
func fits(node api.Node) bool {
	r := ruleOf(node.Kind)
	return r.least <= node.Kids && node.Kids <= r.most && textFits(r.text, node.Text) && numbersFit(node)
}

func textFits(what int, text string) bool {
	switch what {
	case aName:
		return isName(text)
	case aNameOrNone:
		return text == "" || isName(text)
	case aBinary:
		return compares(text) || tightness(text) != 0
	case aUnary:
		return text == "-" || text == "~"
	case anyText:
		return true
	}
	return text == ""
}

// isName asks chapter 11: a name is one token that has all the bytes, with the end behind it.
func isName(text string) bool {
	list, _ := lex.All(text)
	return len(list) == 2 && list[0].Kind == api.TokName && list[0].Text == text
}

func numbersFit(node api.Node) bool {
	switch node.Kind {
	case api.NodeInt:
		return node.Int >= 0 && node.Bits == 0
	case api.NodeFloat:
		return node.Int == 0 && (node.Bits <= infinity || node.Bits == api.Canon)
	}
	return node.Int == 0 && node.Bits == 0
}

// infinity is the greatest pattern that has no sign and is no NaN.
const infinity = 0x7ff0000000000000
