package tree_test

import (
	"fmt"
	"regexp"
	"slices"
	"strconv"
	"strings"

	"casket/api"
	"casket/numtext"
)

// The model of texts: a tree is written as the chapter's rules have it, and each node's place is noted.

// part is a node with its kids.
type part struct {
	node api.Node
	kids []*part
}

func (p *part) row() []api.Node {
	p.node.Kids = len(p.kids)
	l := []api.Node{p.node}
	for _, kid := range p.kids {
		l = append(l, kid.row()...)
	}
	return l
}

// grown is the first tree of a row, and what stands behind it; none, if the row ends too early.
func grown(l []api.Node) (*part, []api.Node) {
	if len(l) == 0 {
		return nil, nil
	}
	p, rest := &part{node: l[0]}, l[1:]
	for range max(l[0].Kids, 0) {
		kid, behind := grown(rest)
		if kid == nil {
			return nil, nil
		}
		p.kids, rest = append(p.kids, kid), behind
	}
	return p, rest
}

// writer writes tokens: gap is what stands ahead of each, bracketed tells whether an expression stands in brackets, and how many.
type writer struct {
	text      strings.Builder
	gap       func() string
	bracketed func(p *part, needed bool) int
}

func (w *writer) put(token string) int {
	w.text.WriteString(w.gap())
	at := w.text.Len()
	w.text.WriteString(token)
	return at
}

func (w *writer) puts(tokens string) {
	for _, token := range strings.Fields(tokens) {
		w.put(token)
	}
}

func (w *writer) all(list []*part, separator string) {
	for i, p := range list {
		if i > 0 {
			w.puts(separator)
		}
		w.write(p)
	}
}

// write writes all but expressions.
func (w *writer) write(p *part) {
	n := &p.node
	last := len(p.kids) - 1
	switch n.Kind {
	case api.NodeProgram:
		w.all(p.kids, "")
	case api.NodeGlobal:
		w.puts("let")
		n.At = w.put(n.Text)
		w.puts(";")
	case api.NodeFunc:
		w.puts("fn")
		n.At = w.put(n.Text)
		w.puts("(")
		w.all(p.kids[:last], ",")
		w.puts(")")
		w.write(p.kids[last])
	case api.NodeParam:
		n.At = w.put(n.Text)
	case api.NodeBlock:
		n.At = w.put("{")
		w.all(p.kids, "")
		w.puts("}")
	case api.NodeLabel:
		n.At = w.put(n.Text)
		w.puts(":")
	default:
		if level(*n) > 0 {
			w.value(p, 1)
		} else {
			w.statement(p)
		}
	}
}

func (w *writer) statement(p *part) {
	n := &p.node
	switch n.Kind {
	case api.NodeLet:
		w.puts("let")
		n.At = w.put(n.Text)
		w.puts("=")
	case api.NodeAssign:
		to := &part{node: api.Node{Kind: api.NodeName, Text: n.Text}}
		w.value(to, 1)
		n.At = to.node.At
		w.puts("=")
	case api.NodeStore:
		to := &part{node: api.Node{Kind: api.NodeIndex}, kids: p.kids[:2]}
		w.value(to, 1)
		n.At = to.node.At
		w.puts("=")
	case api.NodeIf, api.NodeWhile, api.NodeFor:
		w.bracing(p)
		return
	case api.NodeBreak:
		n.At = w.put("break")
		w.puts(n.Text)
	case api.NodeContinue:
		n.At = w.put("continue")
		w.puts(n.Text)
	case api.NodeReturn:
		n.At = w.put("return")
	case api.NodeOut:
		n.At = w.put("out")
	}
	if len(p.kids) > 0 {
		value := p.kids[len(p.kids)-1]
		w.value(value, 1)
		if n.Kind == api.NodeExpr {
			n.At = value.node.At
		}
	}
	w.puts(";")
}

// bracing writes the statements that have a block.
func (w *writer) bracing(p *part) {
	n := &p.node
	switch n.Kind {
	case api.NodeIf:
		n.At = w.put("if")
		w.all(p.kids[:2], "")
		if len(p.kids) == 3 {
			w.puts("else")
			w.write(p.kids[2])
		}
	case api.NodeWhile:
		if n.Text != "" {
			w.puts(n.Text + " :")
		}
		n.At = w.put("while")
		w.all(p.kids, "")
	case api.NodeFor:
		kids := p.kids
		if len(kids) == 4 {
			w.write(kids[0])
			kids = kids[1:]
		}
		n.At = w.put("for")
		w.puts(n.Text + " in")
		w.all(kids[:2], "..")
		w.write(kids[2])
	}
}

// level is which of the chapter's rules an expression is made by, from the loosest on; 0, if it is none.
func level(n api.Node) int {
	switch n.Kind {
	case api.NodeOr:
		return 1
	case api.NodeAnd:
		return 2
	case api.NodeNot:
		return 3
	case api.NodeBinary:
		return levelOf(n.Text)
	case api.NodeUnary:
		return 11
	case api.NodeCall, api.NodeIndex, api.NodeName, api.NodeInt, api.NodeFloat, api.NodeText, api.NodeTrue, api.NodeFalse, api.NodeNil:
		return 12
	}
	return 0
}

// operators are those of two, by level.
var operators = map[int][]string{
	1: {"or"}, 2: {"and"}, 4: {"==", "!=", "<", "<=", ">", ">="}, 5: {"|"}, 6: {"^"}, 7: {"&"}, 8: {"<<", ">>"}, 9: {"+", "-"}, 10: {"*", "/", "//", "%"},
}

func levelOf(operator string) int {
	for level, list := range operators {
		if slices.Contains(list, operator) {
			return level
		}
	}
	return 0
}

// value writes an expression, where one of at least this level may stand.
func (w *writer) value(p *part, least int) {
	around := w.bracketed(p, level(p.node) < least)
	for range around {
		w.put("(")
	}
	w.inner(p)
	for range around {
		w.put(")")
	}
}

func (w *writer) inner(p *part) {
	n := &p.node
	own := level(*n)
	switch n.Kind {
	case api.NodeOr, api.NodeAnd, api.NodeBinary:
		operator := map[int]string{api.NodeOr: "or", api.NodeAnd: "and", api.NodeBinary: n.Text}[n.Kind]
		left := own
		if own == 4 {
			left++
		}
		w.value(p.kids[0], left)
		n.At = w.put(operator)
		w.value(p.kids[1], own+1)
	case api.NodeNot:
		n.At = w.put("not")
		w.value(p.kids[0], own)
	case api.NodeUnary:
		n.At = w.put(n.Text)
		w.value(p.kids[0], own)
	case api.NodeIndex:
		w.value(p.kids[0], own)
		n.At = w.put("[")
		w.value(p.kids[1], 1)
		w.put("]")
	case api.NodeCall:
		n.At = w.put(n.Text)
		w.put("(")
		w.all(p.kids, ",")
		w.put(")")
	default:
		n.At = w.put(plainToken(*n))
	}
}

func plainToken(n api.Node) string {
	switch n.Kind {
	case api.NodeInt:
		return strconv.FormatInt(n.Int, 10)
	case api.NodeFloat:
		return numtext.Float(n.Bits)
	case api.NodeText:
		return quoted(n.Text)
	case api.NodeTrue:
		return "true"
	case api.NodeFalse:
		return "false"
	case api.NodeNil:
		return "nil"
	}
	return n.Text
}

func quoted(s string) string {
	var text strings.Builder
	for _, b := range []byte(s) {
		switch {
		case b == '\n':
			text.WriteString(`\n`)
		case b == '"' || b == '\\':
			text.Write([]byte{'\\', b})
		case b >= 32 && b <= 126:
			text.WriteByte(b)
		default:
			fmt.Fprintf(&text, `\x%02x`, b)
		}
	}
	return `"` + text.String() + `"`
}

// written is a tree's text, with one blank between each two tokens.
func written(l []api.Node, bracketed func(p *part, needed bool) int) string {
	p, rest := grown(l)
	if p == nil || len(rest) > 0 {
		return "no tree"
	}
	w := &writer{bracketed: bracketed}
	w.gap = func() string { return map[bool]string{false: " "}[w.text.Len() == 0] }
	w.write(p)
	return w.text.String()
}

// modelText is what Print answers: in brackets stands what has an operator, and nothing else.
func modelText(l []api.Node) string {
	text := written(l, func(p *part, _ bool) int { return map[bool]int{true: 1}[level(p.node) < 12] })
	if text != "" {
		text += "\n"
	}
	return text
}

// leastText has brackets where they are needed, and nowhere else.
func leastText(l []api.Node) string {
	return written(l, func(_ *part, needed bool) int { return map[bool]int{true: 1}[needed] })
}

// The model of rows: kinds are letters, and a node's kids are a word of them.

// letters are the kinds' letters, by their numbers: programs P, units U, parameters A, blocks B, statements S, an if I, labels L, expressions E.
const letters = "?PUUABSSSISSLSSSSSEEEEEEEEEEEEEE"

// kidForms are the words that a kind's kids may make; of those that are not here it is none.
var kidForms = map[int]*regexp.Regexp{
	api.NodeProgram: regexp.MustCompile(`^U*$`), api.NodeFunc: regexp.MustCompile(`^A*B$`), api.NodeBlock: regexp.MustCompile(`^[SI]*$`),
	api.NodeLet: regexp.MustCompile(`^E$`), api.NodeAssign: regexp.MustCompile(`^E$`), api.NodeStore: regexp.MustCompile(`^EEE$`),
	api.NodeIf: regexp.MustCompile(`^EB[BI]?$`), api.NodeWhile: regexp.MustCompile(`^EB$`), api.NodeFor: regexp.MustCompile(`^L?EEB$`),
	api.NodeReturn: regexp.MustCompile(`^E?$`), api.NodeOut: regexp.MustCompile(`^E$`), api.NodeExpr: regexp.MustCompile(`^E$`),
	api.NodeOr: regexp.MustCompile(`^EE$`), api.NodeAnd: regexp.MustCompile(`^EE$`), api.NodeNot: regexp.MustCompile(`^E$`),
	api.NodeBinary: regexp.MustCompile(`^EE$`), api.NodeUnary: regexp.MustCompile(`^E$`), api.NodeCall: regexp.MustCompile(`^E*$`), api.NodeIndex: regexp.MustCompile(`^EE$`),
}

// textForms are the Texts that a kind may have; of those that are not here it is none.
var textForms = map[int]*regexp.Regexp{
	api.NodeWhile: labelForm, api.NodeBreak: labelForm, api.NodeContinue: labelForm,
	api.NodeGlobal: nameForm, api.NodeFunc: nameForm, api.NodeParam: nameForm, api.NodeLet: nameForm, api.NodeAssign: nameForm, api.NodeFor: nameForm, api.NodeLabel: nameForm, api.NodeCall: nameForm, api.NodeName: nameForm,
	api.NodeBinary: regexp.MustCompile(`^(?:[=!<>]=|<<?|>>?|[-+*%&|^]|//?)$`), api.NodeUnary: regexp.MustCompile(`^[-~]$`), api.NodeText: regexp.MustCompile(`(?s)^.*$`),
}

var (
	nameForm  = regexp.MustCompile(`^[a-z_][a-z0-9_]{0,30}$`)
	labelForm = regexp.MustCompile(`^(?:[a-z_][a-z0-9_]{0,30})?$`)
	emptyForm = regexp.MustCompile(`^$`)
)

// reserved are no names, though they are written like one.
var reserved = strings.Fields("fn let if else while for in break continue return out and or not true false nil inf nan")

func letter(kind int) byte {
	if kind < 1 || kind >= len(letters) {
		return '?'
	}
	return letters[kind]
}

// isRight tells whether Parse could answer a row.
func isRight(l []api.Node) bool {
	if slices.ContainsFunc(l, func(n api.Node) bool { return n.Kids < 0 || n.Kids >= len(l) }) {
		return false
	}
	p, rest := grown(l)
	return p != nil && len(rest) == 0 && p.node.Kind == api.NodeProgram && p.isRight()
}

func (p *part) isRight() bool {
	n := p.node
	word := ""
	for _, kid := range p.kids {
		if !kid.isRight() {
			return false
		}
		word += string(rune(letter(kid.node.Kind)))
	}
	isWhole := n.Kind == api.NodeInt && n.Int > 0
	isDouble := n.Kind == api.NodeFloat && (n.Bits>>63 == 0 && n.Bits>>52 != 0x7ff || n.Bits == 0x7ff<<52 || n.Bits == 0x7ff8<<48)
	return formOf(kidForms, n.Kind).MatchString(word) && formOf(textForms, n.Kind).MatchString(n.Text) &&
		(n.Kind == api.NodeText || !slices.Contains(reserved, n.Text)) && (n.Int == 0 || isWhole) && (n.Bits == 0 || isDouble)
}

func formOf(forms map[int]*regexp.Regexp, kind int) *regexp.Regexp {
	if form := forms[kind]; form != nil {
		return form
	}
	return emptyForm
}
