package tree

import (
	"slices"
	"strings"

	"casket/api"
	"casket/numtext"
	"casket/quote"
)

// kid stands among a node's tokens where those of its next kid do: no token is empty.
const kid = ""

// printed is the text of a tree that is right. What is left to print stands in a list, not in calls: it may be deep.
func printed(l []api.Node) string {
	var text strings.Builder
	at := 0
	left := []string{kid}
	for len(left) > 0 {
		next := left[len(left)-1]
		left = left[:len(left)-1]
		if next == kid {
			for _, token := range slices.Backward(tokens(l[at])) {
				left = append(left, token)
			}
			at++
			continue
		}
		if text.Len() > 0 {
			text.WriteByte(' ')
		}
		text.WriteString(next)
	}
	if text.Len() > 0 {
		text.WriteByte('\n')
	}
	return text.String()
}

// tokens are those of a node's rule, with its kids among them.
func tokens(n api.Node) []string {
	switch n.Kind {
	case api.NodeProgram:
		return kids(n.Kids)
	case api.NodeGlobal:
		return []string{"let", n.Text, ";"}
	case api.NodeFunc:
		return slices.Concat([]string{"fn", n.Text, "("}, commas(n.Kids-1), []string{")", kid})
	case api.NodeBlock:
		return slices.Concat([]string{"{"}, kids(n.Kids), []string{"}"})
	case api.NodeParam, api.NodeName:
		return []string{n.Text}
	case api.NodeLabel:
		return []string{n.Text, ":"}
	}
	if ruleOf(n.Kind).sort == aStatement {
		return ofStatement(n)
	}
	return ofExpression(n)
}

func ofStatement(n api.Node) []string {
	switch n.Kind {
	case api.NodeLet:
		return []string{"let", n.Text, "=", kid, ";"}
	case api.NodeAssign:
		return []string{n.Text, "=", kid, ";"}
	case api.NodeStore:
		return []string{kid, "[", kid, "]", "=", kid, ";"}
	case api.NodeIf:
		return ofIf(n)
	case api.NodeWhile:
		return ofWhile(n)
	case api.NodeFor:
		return slices.Concat(kids(n.Kids-3), []string{"for", n.Text, "in", kid, "..", kid, kid})
	case api.NodeBreak:
		return ofJump("break", n.Text)
	case api.NodeContinue:
		return ofJump("continue", n.Text)
	case api.NodeReturn:
		return slices.Concat([]string{"return"}, kids(n.Kids), []string{";"})
	case api.NodeOut:
		return []string{"out", kid, ";"}
	}
	return []string{kid, ";"}
}

func ofExpression(n api.Node) []string {
	switch n.Kind {
	case api.NodeOr:
		return []string{"(", kid, "or", kid, ")"}
	case api.NodeAnd:
		return []string{"(", kid, "and", kid, ")"}
	case api.NodeNot:
		return []string{"(", "not", kid, ")"}
	case api.NodeBinary:
		return []string{"(", kid, n.Text, kid, ")"}
	case api.NodeUnary:
		return []string{"(", n.Text, kid, ")"}
	case api.NodeCall:
		return slices.Concat([]string{n.Text, "("}, commas(n.Kids), []string{")"})
	case api.NodeIndex:
		return []string{kid, "[", kid, "]"}
	case api.NodeInt:
		return []string{numtext.Int(n.Int)}
	case api.NodeFloat:
		return []string{numtext.Float(n.Bits)}
	case api.NodeText:
		return []string{quote.Write(n.Text)}
	case api.NodeTrue:
		return []string{"true"}
	case api.NodeFalse:
		return []string{"false"}
	}
	return []string{"nil"}
}

func ofIf(n api.Node) []string {
	if n.Kids == 2 {
		return []string{"if", kid, kid}
	}
	return []string{"if", kid, kid, "else", kid}
}

func ofWhile(n api.Node) []string {
	if n.Text == "" {
		return []string{"while", kid, kid}
	}
	return []string{n.Text, ":", "while", kid, kid}
}

func ofJump(word, label string) []string {
	if label == "" {
		return []string{word, ";"}
	}
	return []string{word, label, ";"}
}

// kids are n of them.
func kids(n int) []string { return slices.Repeat([]string{kid}, n) }

// commas are n kids, with a comma between each two.
func commas(n int) []string {
	if n == 0 {
		return nil
	}
	return append(slices.Repeat([]string{kid, ","}, n-1), kid)
}
