package tree

import "casket/api"

func program(c *cursor) *branch {
	all := at(api.NodeProgram, api.Token{})
	for c.look().Kind != api.TokEnd {
		if c.sees("let") {
			all.kids = append(all.kids, global(c))
		} else {
			all.kids = append(all.kids, function(c))
		}
	}
	return all
}

func global(c *cursor) *branch {
	c.want("let")
	name := c.wantName()
	c.want(";")
	return of(api.NodeGlobal, name)
}

func function(c *cursor) *branch {
	c.want("fn")
	name := c.wantName()
	kids := listed(c, parameter)
	return of(api.NodeFunc, name, append(kids, block(c))...)
}

func parameter(c *cursor) *branch { return of(api.NodeParam, c.wantName()) }

// listed reads parts in round brackets, with a comma between each two.
func listed(c *cursor, part func(*cursor) *branch) []*branch {
	var parts []*branch
	c.want("(")
	for !c.sees(")") {
		if len(parts) > 0 {
			c.want(",")
		}
		parts = append(parts, part(c))
	}
	c.want(")")
	return parts
}

func block(c *cursor) *branch {
	all := at(api.NodeBlock, c.want("{"))
	for !c.sees("}") {
		all.kids = append(all.kids, statement(c))
	}
	c.want("}")
	return all
}

func statement(c *cursor) *branch {
	switch fixed(c.look()) {
	case "let":
		return letStatement(c)
	case "if":
		return ifStatement(c)
	case "while":
		return whileStatement(c)
	case "for":
		return forStatement(c)
	case "break":
		return jumpStatement(c, api.NodeBreak)
	case "continue":
		return jumpStatement(c, api.NodeContinue)
	case "return":
		return returnStatement(c)
	case "out":
		return outStatement(c)
	}
	if c.seesLabel() {
		return labelledStatement(c)
	}
	return plainStatement(c)
}

func letStatement(c *cursor) *branch {
	c.want("let")
	name := c.wantName()
	c.want("=")
	value := expression(c)
	c.want(";")
	return of(api.NodeLet, name, value)
}

func ifStatement(c *cursor) *branch {
	made := at(api.NodeIf, c.want("if"), expression(c), block(c))
	if !c.sees("else") {
		return made
	}
	c.take()
	if c.sees("if") {
		made.kids = append(made.kids, ifStatement(c))
	} else {
		made.kids = append(made.kids, block(c))
	}
	return made
}

func whileStatement(c *cursor) *branch {
	return at(api.NodeWhile, c.want("while"), expression(c), block(c))
}

func forStatement(c *cursor) *branch {
	made := at(api.NodeFor, c.want("for"))
	made.node.Text = c.wantName().Text
	c.want("in")
	from := expression(c)
	c.want("..")
	made.kids = []*branch{from, expression(c), block(c)}
	return made
}

func labelledStatement(c *cursor) *branch {
	label := c.wantName()
	c.want(":")
	if c.sees("for") {
		made := forStatement(c)
		made.kids = append([]*branch{of(api.NodeLabel, label)}, made.kids...)
		return made
	}
	made := whileStatement(c)
	made.node.Text = label.Text
	return made
}

func jumpStatement(c *cursor, kind int) *branch {
	made := at(kind, c.take())
	if !c.sees(";") {
		made.node.Text = c.wantName().Text
	}
	c.want(";")
	return made
}

func returnStatement(c *cursor) *branch {
	made := at(api.NodeReturn, c.want("return"))
	if !c.sees(";") {
		made.kids = append(made.kids, expression(c))
	}
	c.want(";")
	return made
}

func outStatement(c *cursor) *branch {
	made := at(api.NodeOut, c.want("out"), expression(c))
	c.want(";")
	return made
}

// plainStatement is a statement that begins with an expression: what can be assigned to is known ahead of the "=".
func plainStatement(c *cursor) *branch {
	first := expression(c)
	if c.sees("=") {
		switch first.node.Kind {
		case api.NodeName:
			first.node.Kind = api.NodeAssign
			return assigned(c, first)
		case api.NodeIndex:
			first.node.Kind = api.NodeStore
			return assigned(c, first)
		}
	}
	c.want(";")
	return &branch{node: api.Node{Kind: api.NodeExpr, At: first.node.At}, kids: []*branch{first}}
}

func assigned(c *cursor, to *branch) *branch {
	c.want("=")
	to.kids = append(to.kids, expression(c))
	c.want(";")
	return to
}
