package tree

import "casket/api"

// How tightly operators of two bind, comparisons aside.
const (
	loosest  = 1
	tightest = 6
)

// tightness is 0 of what is no such operator.
func tightness(text string) int {
	switch text {
	case "|":
		return loosest
	case "^":
		return 2
	case "&":
		return 3
	case "<<", ">>":
		return 4
	case "+", "-":
		return 5
	case "*", "/", "//", "%":
		return tightest
	}
	return 0
}

func compares(text string) bool {
	switch text {
	case "==", "!=", "<", "<=", ">", ">=":
		return true
	}
	return false
}

func expression(c *cursor) *branch {
	left := conjunction(c)
	for c.sees("or") {
		left = at(api.NodeOr, c.take(), left, conjunction(c))
	}
	return left
}

func conjunction(c *cursor) *branch {
	left := negation(c)
	for c.sees("and") {
		left = at(api.NodeAnd, c.take(), left, negation(c))
	}
	return left
}

func negation(c *cursor) *branch {
	if c.sees("not") {
		return at(api.NodeNot, c.take(), negation(c))
	}
	return comparison(c)
}

func comparison(c *cursor) *branch {
	left := binary(c, loosest)
	if compares(fixed(c.look())) {
		return of(api.NodeBinary, c.take(), left, binary(c, loosest))
	}
	return left
}

// binary is a row of operators that bind as tightly as this one, with what binds more tightly between.
func binary(c *cursor, level int) *branch {
	if level > tightest {
		return unary(c)
	}
	left := binary(c, level+1)
	for tightness(fixed(c.look())) == level {
		left = of(api.NodeBinary, c.take(), left, binary(c, level+1))
	}
	return left
}

func unary(c *cursor) *branch {
	if c.sees("-", "~") {
		return of(api.NodeUnary, c.take(), unary(c))
	}
	return postfix(c)
}

func postfix(c *cursor) *branch {
	left := primary(c)
	for c.sees("[") {
		left = at(api.NodeIndex, c.take(), left, expression(c))
		c.want("]")
	}
	return left
}

func primary(c *cursor) *branch {
	switch token := c.look(); token.Kind {
	case api.TokInt:
		return of(api.NodeInt, c.take())
	case api.TokFloat:
		return of(api.NodeFloat, c.take())
	case api.TokText:
		return of(api.NodeText, c.take())
	case api.TokName:
		return named(c)
	case api.TokWord:
		return word(c)
	}
	c.want("(")
	inner := expression(c)
	c.want(")")
	return inner
}

func named(c *cursor) *branch {
	name := c.wantName()
	if c.sees("(") {
		return of(api.NodeCall, name, listed(c, expression)...)
	}
	return of(api.NodeName, name)
}

func word(c *cursor) *branch {
	switch {
	case c.sees("true"):
		return at(api.NodeTrue, c.take())
	case c.sees("false"):
		return at(api.NodeFalse, c.take())
	}
	return at(api.NodeNil, c.want("nil"))
}
