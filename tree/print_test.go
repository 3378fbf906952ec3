package tree_test

import (
	"fmt"
	"math"
	"strings"
	"testing"

	"casket/api"
	"casket/tree"
)

// Promise 12.5, where a row is right: its text.

// node makes a node that has kids and a Text alone.
func node(kind, kids int, text string) api.Node { return api.Node{Kind: kind, Kids: kids, Text: text} }

func whole(i int64) api.Node      { return api.Node{Kind: api.NodeInt, Int: i} }
func double(bits uint64) api.Node { return api.Node{Kind: api.NodeFloat, Bits: bits} }

var (
	nameA = node(api.NodeName, 0, "a")
	nameB = node(api.NodeName, 0, "b")
	block = node(api.NodeBlock, 0, "")
)

// inFunction is a program of one function, with one statement.
func inFunction(statement ...api.Node) []api.Node {
	return append([]api.Node{node(api.NodeProgram, 1, ""), node(api.NodeFunc, 1, "f"), node(api.NodeBlock, 1, "")}, statement...)
}

// inReturn is a program that returns a value.
func inReturn(value ...api.Node) []api.Node {
	return inFunction(append([]api.Node{node(api.NodeReturn, 1, "")}, value...)...)
}

func wantText(t *testing.T, l []api.Node, want string) {
	t.Helper()
	if text, e := tree.Print(l); text != want || e != api.OK {
		t.Errorf("Print of %s: %q, %d; want %q", told(l, 0), text, e, want)
	}
	wantThereAndBack(t, l)
}

func wantStatementText(t *testing.T, want string, statement ...api.Node) {
	t.Helper()
	wantText(t, inFunction(statement...), "fn f ( ) { "+want+" }\n")
}

func wantValueText(t *testing.T, want string, value ...api.Node) {
	t.Helper()
	wantText(t, inReturn(value...), "fn f ( ) { return "+want+" ; }\n")
}

func TestPrintUnits(t *testing.T) {
	program := func(kids int, l ...api.Node) []api.Node {
		return append([]api.Node{node(api.NodeProgram, kids, "")}, l...)
	}
	wantText(t, program(0), "")
	wantText(t, program(1, node(api.NodeGlobal, 0, "g")), "let g ;\n")
	wantText(t, program(2, node(api.NodeGlobal, 0, "g"), node(api.NodeGlobal, 0, "g")), "let g ; let g ;\n")
	wantText(t, program(1, node(api.NodeFunc, 1, "f"), block), "fn f ( ) { }\n")
	wantText(t, program(1, node(api.NodeFunc, 2, "f"), node(api.NodeParam, 0, "a"), block), "fn f ( a ) { }\n")
	wantText(t, program(1, node(api.NodeFunc, 4, "f"), node(api.NodeParam, 0, "a"), node(api.NodeParam, 0, "b"), node(api.NodeParam, 0, "c"), block), "fn f ( a , b , c ) { }\n")
	wantText(t, program(3, node(api.NodeFunc, 1, "f"), block, node(api.NodeGlobal, 0, "g"), node(api.NodeFunc, 1, "h"), block), "fn f ( ) { } let g ; fn h ( ) { }\n")
}

func TestPrintStatements(t *testing.T) {
	wantStatementText(t, "let x = a ;", node(api.NodeLet, 1, "x"), nameA)
	wantStatementText(t, "x = a ;", node(api.NodeAssign, 1, "x"), nameA)
	wantStatementText(t, "a [ b ] = 1 ;", node(api.NodeStore, 3, ""), nameA, nameB, whole(1))
	wantStatementText(t, "a [ b ] [ b ] = 1 ;", node(api.NodeStore, 3, ""), node(api.NodeIndex, 2, ""), nameA, nameB, nameB, whole(1))
	wantStatementText(t, "( - a ) [ b ] = 1 ;", node(api.NodeStore, 3, ""), node(api.NodeUnary, 1, "-"), nameA, nameB, whole(1))
	wantStatementText(t, "if a { }", node(api.NodeIf, 2, ""), nameA, block)
	wantStatementText(t, "if a { } else { }", node(api.NodeIf, 3, ""), nameA, block, block)
	wantStatementText(t, "if a { } else if b { } else { }", node(api.NodeIf, 3, ""), nameA, block, node(api.NodeIf, 3, ""), nameB, block, block)
	wantStatementText(t, "while a { }", node(api.NodeWhile, 2, ""), nameA, block)
	wantStatementText(t, "l : while a { }", node(api.NodeWhile, 2, "l"), nameA, block)
	wantStatementText(t, "for i in a .. b { }", node(api.NodeFor, 3, "i"), nameA, nameB, block)
	wantStatementText(t, "l : for i in a .. b { }", node(api.NodeFor, 4, "i"), node(api.NodeLabel, 0, "l"), nameA, nameB, block)
	wantStatementText(t, "break ;", node(api.NodeBreak, 0, ""))
	wantStatementText(t, "break l ;", node(api.NodeBreak, 0, "l"))
	wantStatementText(t, "continue ;", node(api.NodeContinue, 0, ""))
	wantStatementText(t, "continue l ;", node(api.NodeContinue, 0, "l"))
	wantStatementText(t, "return ;", node(api.NodeReturn, 0, ""))
	wantStatementText(t, "return a ;", node(api.NodeReturn, 1, ""), nameA)
	wantStatementText(t, "out a ;", node(api.NodeOut, 1, ""), nameA)
	wantStatementText(t, "a ;", node(api.NodeExpr, 1, ""), nameA)
	wantStatementText(t, "( a or b ) ;", node(api.NodeExpr, 1, ""), node(api.NodeOr, 2, ""), nameA, nameB)
	two := inFunction(node(api.NodeBreak, 0, ""), node(api.NodeExpr, 1, ""), nameA)
	two[2].Kids = 2
	wantText(t, two, "fn f ( ) { break ; a ; }\n")
}

func TestPrintValues(t *testing.T) {
	wantValueText(t, "( a or b )", node(api.NodeOr, 2, ""), nameA, nameB)
	wantValueText(t, "( a and b )", node(api.NodeAnd, 2, ""), nameA, nameB)
	wantValueText(t, "( not a )", node(api.NodeNot, 1, ""), nameA)
	for _, operator := range strings.Fields("== != < <= > >= | ^ & << >> + - * / // %") {
		wantValueText(t, "( a "+operator+" b )", node(api.NodeBinary, 2, operator), nameA, nameB)
		wantValueText(t, "( ( a "+operator+" a ) "+operator+" ( b "+operator+" b ) )", node(api.NodeBinary, 2, operator), node(api.NodeBinary, 2, operator), nameA, nameA, node(api.NodeBinary, 2, operator), nameB, nameB)
	}
	wantValueText(t, "( - a )", node(api.NodeUnary, 1, "-"), nameA)
	wantValueText(t, "( ~ ( - a ) )", node(api.NodeUnary, 1, "~"), node(api.NodeUnary, 1, "-"), nameA)
	wantValueText(t, "( - ( not a ) )", node(api.NodeUnary, 1, "-"), node(api.NodeNot, 1, ""), nameA)
	wantValueText(t, "g ( )", node(api.NodeCall, 0, "g"))
	wantValueText(t, "g ( a )", node(api.NodeCall, 1, "g"), nameA)
	wantValueText(t, "g ( a , ( - b ) , h ( ) )", node(api.NodeCall, 3, "g"), nameA, node(api.NodeUnary, 1, "-"), nameB, node(api.NodeCall, 0, "h"))
	wantValueText(t, "a [ b ]", node(api.NodeIndex, 2, ""), nameA, nameB)
	wantValueText(t, "a [ b ] [ 1 ]", node(api.NodeIndex, 2, ""), node(api.NodeIndex, 2, ""), nameA, nameB, whole(1))
	wantValueText(t, "g ( ) [ ( not b ) ]", node(api.NodeIndex, 2, ""), node(api.NodeCall, 0, "g"), node(api.NodeNot, 1, ""), nameB)
	wantValueText(t, "true", node(api.NodeTrue, 0, ""))
	wantValueText(t, "false", node(api.NodeFalse, 0, ""))
	wantValueText(t, "nil", node(api.NodeNil, 0, ""))
}

func TestPrintNumbers(t *testing.T) {
	for i, want := range map[int64]string{0: "0", 1: "1", 42: "42", 1 << 47: "140737488355328", math.MaxInt64: "9223372036854775807"} {
		wantValueText(t, want, whole(i))
	}
	for bits, want := range map[uint64]string{
		0: "0x0p+0", 1: "0x1p-1074", 0x3ff0000000000000: "0x1p+0", 0x3ff8000000000000: "0x1.8p+0", 0x3fe0000000000000: "0x1p-1", 0x000fffffffffffff: "0x1.ffffffffffffep-1023",
		0x7fefffffffffffff: "0x1.fffffffffffffp+1023", 0x7ff0000000000000: "inf", api.Canon: "nan",
	} {
		wantValueText(t, want, double(bits))
	}
}

// Strings of each of the 256 bytes, alone and beside others.
func TestPrintStrings(t *testing.T) {
	var all []byte
	for b := range 256 {
		want := string([]byte{byte(b)})
		switch {
		case b == 10:
			want = `\n`
		case b == '"' || b == '\\':
			want = `\` + want
		case b < 32 || b > 126:
			want = fmt.Sprintf(`\x%02x`, b)
		}
		s := string([]byte{byte(b)})
		wantValueText(t, `"`+want+`"`, node(api.NodeText, 0, s))
		wantValueText(t, `"a`+want+want+`1"`, node(api.NodeText, 0, "a"+s+s+"1"))
		all = append(all, byte(b))
	}
	wantValueText(t, `""`, node(api.NodeText, 0, ""))
	wantThereAndBack(t, inReturn(node(api.NodeText, 0, string(all))))
	for _, s := range []string{"( [ {", "let x = 1 ;", "# no remark", "ä", "\\n", "\\x41", "\"\"", "\r\n\t", "if", "inf"} {
		wantThereAndBack(t, inReturn(node(api.NodeText, 0, s)))
	}
}

// Places are not looked at.
func TestPrintWithoutPlaces(t *testing.T) {
	l := parsed(t, wholes[7])
	want, _ := tree.Print(l)
	for _, at := range []int{0, -1, 7, math.MinInt, math.MaxInt} {
		for i := range l {
			l[i].At = at
		}
		wantText(t, l, want)
	}
}

// Names of each form that there is.
func TestPrintNames(t *testing.T) {
	for _, name := range []string{"a", "_", "z9", "__", "a_0", "inf_", "nan1", "fnx", "i", "iff", "tru", strings.Repeat("x", api.MaxName), "_" + strings.Repeat("0", api.MaxName-1)} {
		wantValueText(t, name, node(api.NodeName, 0, name))
		wantValueText(t, name+" ( )", node(api.NodeCall, 0, name))
		wantStatementText(t, name+" : while a { }", node(api.NodeWhile, 2, name), nameA, block)
		wantStatementText(t, "break "+name+" ;", node(api.NodeBreak, 0, name))
	}
}

// What nests too deep for a source is printed all the same.
func TestPrintTooDeepForParse(t *testing.T) {
	var l []api.Node
	for range api.MaxNest {
		l = append(l, node(api.NodeUnary, 1, "-"))
	}
	l = inReturn(append(l, nameA)...)
	text, e := tree.Print(l)
	if e != api.OK || text != modelText(l) {
		t.Fatalf("%q, %d", text, e)
	}
	wantFault(t, text, api.ErrNest, strings.LastIndex(text, "("))
	m, f := tree.Parse(strings.Replace(strings.Replace(text, "( - a )", "- a", 1), "( - - a )", "- - a", 1))
	if f != (api.Fault{}) || !same(l, m) {
		t.Errorf("with fewer brackets: %v", f)
	}
}

// Rows nest as deep as they can: each node is the kid of the one ahead of it.
func TestPrintDeep(t *testing.T) {
	const n = 1 << 16
	for _, x := range []struct {
		around       []api.Node
		inner        []api.Node
		behind       []api.Node
		open, middle string
		shut         string
	}{
		{[]api.Node{node(api.NodeUnary, 1, "-")}, []api.Node{nameA}, nil, "( - ", "a", " )"},
		{[]api.Node{node(api.NodeNot, 1, "")}, []api.Node{nameA}, nil, "( not ", "a", " )"},
		{[]api.Node{node(api.NodeCall, 1, "g")}, []api.Node{nameA}, nil, "g ( ", "a", " )"},
		{[]api.Node{node(api.NodeBinary, 2, "+")}, []api.Node{nameA}, []api.Node{nameB}, "( ", "a", " + b )"},
		{[]api.Node{node(api.NodeBinary, 2, "+"), nameB}, []api.Node{nameA}, nil, "( b + ", "a", " )"},
		{[]api.Node{node(api.NodeIndex, 2, "")}, []api.Node{nameA}, []api.Node{nameB}, "", "a", " [ b ]"},
		{[]api.Node{node(api.NodeIndex, 2, ""), nameB}, []api.Node{nameA}, nil, "b [ ", "a", " ]"},
	} {
		var l []api.Node
		for range n {
			l = append(l, x.around...)
		}
		l = append(l, x.inner...)
		for range n {
			l = append(l, x.behind...)
		}
		l = inReturn(l...)
		want := "fn f ( ) { return " + strings.Repeat(x.open, n) + x.middle + strings.Repeat(x.shut, n) + " ; }\n"
		if text, e := tree.Print(l); text != want || e != api.OK {
			t.Errorf("%q: %.60q, %d", x.open, text, e)
		}
		wantRefused(t, l[:len(l)-1])
		wantRefused(t, append(l, nameA))
	}
}

// Blocks and ifs, too; and rows that are longer than any source.
func TestPrintDeepStatements(t *testing.T) {
	const n = 1 << 16
	var ifs, chain []api.Node
	for range n {
		ifs = append(ifs, node(api.NodeIf, 2, ""), nameA, node(api.NodeBlock, 1, ""))
		chain = append(chain, node(api.NodeIf, 3, ""), nameA, block)
	}
	if text, e := tree.Print(inFunction(append(ifs, node(api.NodeBreak, 0, ""))...)); e != api.OK || text != "fn f ( ) { "+strings.Repeat("if a { ", n)+"break ;"+strings.Repeat(" }", n+1)+"\n" {
		t.Errorf("ifs: %.60q, %d", text, e)
	}
	if text, e := tree.Print(inFunction(append(chain, block)...)); e != api.OK || text != "fn f ( ) { "+strings.Repeat("if a { } else ", n)+"{ } }\n" {
		t.Errorf("a chain: %.60q, %d", text, e)
	}
	globals := []api.Node{node(api.NodeProgram, n, "")}
	for range n {
		globals = append(globals, node(api.NodeGlobal, 0, "g"))
	}
	if text, e := tree.Print(globals); e != api.OK || text != strings.TrimSuffix(strings.Repeat("let g ; ", n), " ")+"\n" {
		t.Errorf("globals: %.60q, %d", text, e)
	}
	long := strings.Repeat("x", 1<<20)
	if text, e := tree.Print(inReturn(node(api.NodeText, 0, long))); e != api.OK || text != "fn f ( ) { return \""+long+"\" ; }\n" {
		t.Errorf("a long string: %.60q, %d", text, e)
	}
}
