package tree_test

import (
	"math"
	"slices"
	"strings"
	"testing"

	"casket/api"
	"casket/tree"
)

// Promise 12.5, where a row is one that Parse could not answer.

// wantModel asks of any row for what the model says.
func wantModel(t *testing.T, l []api.Node) {
	t.Helper()
	text, e := tree.Print(l)
	if isRight(l) {
		if want := modelText(l); text != want || e != api.OK {
			t.Fatalf("Print of %+v: %q, %d; want %q", l, text, e, want)
		}
	} else if text != "" || e != api.ErrShape {
		t.Fatalf("Print of %+v: %q, %d", l, text, e)
	}
}

func TestNoTrees(t *testing.T) {
	program := node(api.NodeProgram, 0, "")
	for _, l := range [][]api.Node{
		nil, {}, {{}}, {program, program}, {node(api.NodeProgram, 1, "")}, {node(api.NodeProgram, 1, ""), program}, {node(api.NodeProgram, 2, ""), node(api.NodeGlobal, 0, "g")}, {node(api.NodeProgram, 1, ""), node(api.NodeGlobal, 0, "g"), node(api.NodeGlobal, 0, "g")},
		{node(api.NodeProgram, -1, "")}, {node(api.NodeProgram, math.MinInt, "")}, {node(api.NodeProgram, math.MaxInt, "")}, {node(api.NodeProgram, 1<<62, ""), node(api.NodeGlobal, 0, "g")}, {node(api.NodeProgram, 0, "x")}, {{Kind: api.NodeProgram, Int: 1}}, {{Kind: api.NodeProgram, Bits: 1}},
	} {
		wantRefused(t, l)
	}
	for kind := -2; kind < 40; kind++ {
		if kind != api.NodeProgram {
			wantRefused(t, []api.Node{{Kind: kind}})
			wantRefused(t, []api.Node{{Kind: kind, Text: "a"}})
			wantRefused(t, []api.Node{{Kind: kind, Kids: 1, Text: "a"}, nameA})
		}
	}
	full := parsed(t, "let g; fn f(a) { return a - 1 - g; }")
	for n := range full {
		wantRefused(t, full[:n])
		wantRefused(t, full[n+1:])
		wantRefused(t, slices.Concat(full, full[n:]))
	}
	wantRefused(t, slices.Concat(full, full))
}

// kinds are all that there are, and some that are none.
func kinds() []int {
	list := []int{math.MinInt, -1000, -1, 0, 1 << 32, math.MaxInt}
	for kind := 1; kind < 40; kind++ {
		list = append(list, kind)
	}
	return list
}

// turns are rows that differ from a right one in one node.
func turns(l []api.Node, check func([]api.Node)) {
	turned := slices.Clone(l)
	for i, was := range l {
		one := func(n api.Node) {
			turned[i] = n
			check(turned)
			turned[i] = was
		}
		for _, kind := range kinds() {
			n := was
			n.Kind = kind
			one(n)
			one(api.Node{Kind: kind, Kids: was.Kids})
			one(api.Node{Kind: kind, Kids: was.Kids, Text: "x"})
			one(api.Node{Kind: kind, Kids: was.Kids, Text: "-"})
		}
		for _, kids := range []int{math.MinInt, -2, -1, 0, 1, 2, 3, 4, 5, was.Kids - 1, was.Kids + 1, len(l), 1 << 32, 1 << 62, math.MaxInt} {
			n := was
			n.Kids = kids
			one(n)
		}
		for _, text := range texts {
			n := was
			n.Text = text
			one(n)
		}
		for _, number := range []int64{0, 1, -1, math.MinInt64, math.MaxInt64} {
			n := was
			n.Int = number
			one(n)
		}
		for _, bits := range patterns {
			n := was
			n.Bits = bits
			one(n)
		}
	}
}

// texts are names, those that are none, and operators.
var texts = slices.Concat([]string{
	"", "a", "_", "x1", "infx", strings.Repeat("a", 31), strings.Repeat("a", 32), strings.Repeat("a", 100), strings.Repeat("a", 1<<17), "1", "1a", "A", "aB", "a b", " a", "a ", "a\n", "\na", "a#", "#a", "#", "a;", "a.b", "-a", "a-", "\"a\"", "ä", "a\x00", "\x00", "\xff", "0x1p+0", "a,b", "(a)",
	"=", "===", "~", "-", "--", "!", "+ ", " +", "+-", "(", ")", "{", "}", "[", "]", ",", ";", ":", "..", "<>", "&&", "||", "**", "+=",
}, reserved, strings.Fields("== != < <= > >= | ^ & << >> + - * / // %"))

// patterns are doubles with a sign and without, and NaNs.
var patterns = []uint64{0, 1, 0x3ff0000000000000, 0x7fefffffffffffff, 0x7ff0000000000000, 0x7ff0000000000001, 0x7ff7ffffffffffff, api.Canon, api.Canon + 1, api.Canon - 1, 0x7fffffffffffffff, 1 << 63, 1<<63 + 1, 0xbff0000000000000, 0xfff0000000000000, 0xfff8000000000000, math.MaxUint64}

// bodies have each rule, with the fewest parts and with several.
var bodies = []string{
	"", "let x=1;", "x=1;", "x[1]=2;", "if a{}", "if a{}else{}", "if a{}else if b{}", "if a{}else if b{}else{}", "while a{}", "l:while a{}", "for i in a..b{}", "l:for i in a..b{}", "break;", "break l;", "continue;", "continue l;", "return;", "return 1;", "out 1;", "a;",
	"a or b;", "a and b;", "not a;", "a+b;", "a==b;", "-a;", "g();", "g(a);", "g(a,b,c);", "a[1];", "1;", "0x1p+0;", "\"s\";", "true;", "false;", "nil;", "break;break;", "while a{if b{break;}return;}",
}

func sources() []string {
	list := []string{"", "let g;", "let g;let h;", "fn f(){}", "fn f(a){}", "fn f(a,b,c){}", "let g;fn f(a){}let h;"}
	for _, body := range bodies {
		list = append(list, "fn f(){"+body+"}")
	}
	return list
}

// Each node of right rows with another kind, other kids, another Text, Int, Bits.
func TestTurnedNodes(t *testing.T) {
	for _, src := range sources() {
		turns(parsed(t, src), func(l []api.Node) { wantModel(t, l) })
	}
}

// Each node of right rows left out, doubled, and one more of each kind put ahead of it; the kids of the nodes ahead are counted anew, or not.
func TestTurnedRows(t *testing.T) {
	for _, src := range sources() {
		l := parsed(t, src)
		for i := range l {
			for more := range i + 1 {
				turned := func(parts ...[]api.Node) {
					row := slices.Concat(parts...)
					wantModel(t, row)
					if more < len(row) {
						row[more].Kids++
						wantModel(t, row)
						row[more].Kids -= 2
						wantModel(t, row)
					}
				}
				turned(l[:i], l[i+1:])
				turned(l[:i+1], l[i:])
				for kind := 1; kind <= api.NodeNil; kind++ {
					for _, text := range []string{"", "x", "+", "-"} {
						turned(l[:i], []api.Node{node(kind, 0, text)}, l[i:])
						turned(l[:i+1], []api.Node{node(kind, 0, text)}, l[i+1:])
					}
				}
			}
		}
	}
}

// right has nodes that are right where they may stand, without their kids.
var right = []api.Node{
	node(api.NodeGlobal, 0, "g"), node(api.NodeFunc, 0, "f"), node(api.NodeParam, 0, "p"), node(api.NodeBlock, 0, ""), node(api.NodeLet, 0, "x"), node(api.NodeAssign, 0, "x"), node(api.NodeStore, 0, ""), node(api.NodeIf, 0, ""), node(api.NodeWhile, 0, "l"), node(api.NodeFor, 0, "i"), node(api.NodeLabel, 0, "l"), node(api.NodeBreak, 0, "l"), node(api.NodeContinue, 0, ""),
	node(api.NodeReturn, 0, ""), node(api.NodeOut, 0, ""), node(api.NodeExpr, 0, ""), node(api.NodeOr, 0, ""), node(api.NodeAnd, 0, ""), node(api.NodeNot, 0, ""), node(api.NodeBinary, 0, "<<"), node(api.NodeUnary, 0, "~"), node(api.NodeCall, 0, "g"), node(api.NodeIndex, 0, ""), nameA, whole(7), double(1), node(api.NodeText, 0, "t"), node(api.NodeTrue, 0, ""), node(api.NodeFalse, 0, ""), node(api.NodeNil, 0, ""),
}

// finished gives a node the kids that it needs, so that it is right if it may stand where it stands.
func finished(n api.Node) []api.Node {
	switch n.Kind {
	case api.NodeFunc:
		n.Kids = 1
		return []api.Node{n, block}
	case api.NodeLet, api.NodeAssign, api.NodeOut, api.NodeExpr, api.NodeNot, api.NodeUnary:
		n.Kids = 1
		return []api.Node{n, nameA}
	case api.NodeOr, api.NodeAnd, api.NodeBinary, api.NodeIndex:
		n.Kids = 2
		return []api.Node{n, nameA, nameB}
	case api.NodeStore:
		n.Kids = 3
		return []api.Node{n, nameA, nameB, whole(1)}
	case api.NodeIf, api.NodeWhile:
		n.Kids = 2
		return []api.Node{n, nameA, block}
	case api.NodeFor:
		n.Kids = 3
		return []api.Node{n, nameA, nameB, block}
	}
	return []api.Node{n}
}

// Every two kinds in a row as kids of each kind, and every three of some: how many, and which may stand where.
func TestKidsOfEachKind(t *testing.T) {
	around := func(n api.Node, kids ...[]api.Node) []api.Node {
		n.Kids = len(kids)
		l := append([]api.Node{n}, slices.Concat(kids...)...)
		switch letter(n.Kind) {
		case 'U':
			return append([]api.Node{node(api.NodeProgram, 1, "")}, l...)
		case 'S', 'I':
			return inFunction(l...)
		case 'B':
			return append([]api.Node{node(api.NodeProgram, 1, ""), node(api.NodeFunc, 1, "f")}, l...)
		}
		return inReturn(l...)
	}
	few := [][]api.Node{{nameA}, {block}, {node(api.NodeParam, 0, "p")}, {node(api.NodeLabel, 0, "l")}, {node(api.NodeBreak, 0, "")}, finished(node(api.NodeIf, 0, "")), {node(api.NodeGlobal, 0, "g")}}
	for _, n := range right {
		wantModel(t, around(n))
		for _, k := range right {
			wantModel(t, around(n, finished(k)))
			for _, m := range right {
				wantModel(t, around(n, finished(k), finished(m)))
				wantModel(t, around(n, []api.Node{nameA}, finished(k), finished(m)))
				wantModel(t, around(n, finished(k), []api.Node{nameA}, finished(m)))
			}
		}
		for _, a := range few {
			for _, b := range few {
				for _, c := range few {
					for _, d := range few {
						wantModel(t, around(n, a, b, c, d))
						wantModel(t, around(n, a, b, c, d, d))
					}
				}
			}
		}
	}
	for _, k := range right {
		wantModel(t, append([]api.Node{node(api.NodeProgram, 1, "")}, finished(k)...))
		wantModel(t, slices.Concat([]api.Node{node(api.NodeProgram, 2, "")}, finished(k), finished(right[0])))
		wantModel(t, slices.Concat([]api.Node{node(api.NodeProgram, 1, "")}, finished(k), finished(k)))
	}
}

// Rows by chance, of right nodes and of wrong ones.
func TestAnyRows(t *testing.T) {
	var c chance = 11
	for range 20000 {
		l := []api.Node{node(api.NodeProgram, c.below(3), "")}
		for range c.below(8) {
			n := pick(&c, right)
			n.Kids = c.below(4)
			if c.below(20) == 0 {
				n = api.Node{Kind: pick(&c, kinds()), Kids: c.below(3), Text: pick(&c, texts), Int: int64(c.below(2)), Bits: pick(&c, patterns)}
			}
			l = append(l, n)
		}
		wantModel(t, l)
	}
}

// Long rows that are no trees are refused as fast as they are long.
func TestLongWrongRows(t *testing.T) {
	const n = 1 << 20
	for _, kids := range []int{1, 2, n, 1 << 62, math.MaxInt} {
		l := make([]api.Node, n)
		for i := range l {
			l[i] = node(api.NodeCall, kids, "g")
		}
		copy(l, inReturn())
		if text, e := tree.Print(l); text != "" || e != api.ErrShape {
			t.Errorf("%d kids each: %.60q, %d", kids, text, e)
		}
	}
}
