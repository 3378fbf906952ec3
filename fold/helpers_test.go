package fold_test

import (
	"fmt"
	"slices"
	"strconv"
	"strings"
	"testing"

	"casket/api"
	"casket/fold"
	"casket/tree"
)

// Nodes, without a place.

var (
	null = api.Node{Kind: api.NodeNil}
	yes  = api.Node{Kind: api.NodeTrue}
	no   = api.Node{Kind: api.NodeFalse}
)

func whole(i int64) api.Node { return api.Node{Kind: api.NodeInt, Int: i} }

func double(bits uint64) api.Node { return api.Node{Kind: api.NodeFloat, Bits: bits} }

func text(s string) api.Node { return api.Node{Kind: api.NodeText, Text: s} }

func name(s string) api.Node { return api.Node{Kind: api.NodeName, Text: s} }

// filler is a string of n bytes.
func filler(n int) string { return strings.Repeat("x", n) }

// many is a text for each number from 0 on: # stands in it for the number.
func many(n int, form string) string {
	var list strings.Builder
	for i := range n {
		list.WriteString(strings.ReplaceAll(form, "#", strconv.Itoa(i)))
	}
	return list.String()
}

// short is what is told of something that may be long.
func short(x any) string {
	told := fmt.Sprint(x)
	if len(told) > 600 {
		return told[:600] + ".."
	}
	return told
}

// of is a row with a node, and its kids behind it.
func of(kind int, word string, kids ...[]api.Node) []api.Node {
	return append([]api.Node{{Kind: kind, Text: word, Kids: len(kids)}}, slices.Concat(kids...)...)
}

func leaf(node api.Node) []api.Node { return []api.Node{node} }

// returned is a tree with a function f(a) that returns an expression. Each node has a place of its own, which does not rise with the row.
func returned(expression []api.Node) []api.Node {
	block := of(api.NodeBlock, "", of(api.NodeReturn, "", expression))
	l := of(api.NodeProgram, "", of(api.NodeFunc, "f", of(api.NodeParam, "a"), block))
	for i := range l {
		l[i].At = 1000 - 3*i
	}
	return l
}

// ahead is how many nodes returned puts ahead of the expression.
const ahead = 5

func parsed(t testing.TB, src string) []api.Node {
	t.Helper()
	l, fault := tree.Parse(src)
	if fault != (api.Fault{}) {
		t.Fatalf("Parse(%s): %v", short(src), fault)
	}
	return l
}

// folded is what Fold answers of a tree that it takes. It looks whether the tree is as it was.
func folded(t testing.TB, l []api.Node) []api.Node {
	t.Helper()
	was := slices.Clone(l)
	got, fault := fold.Fold(l)
	if fault != (api.Fault{}) || len(got) == 0 {
		t.Fatalf("Fold(%s): %d nodes, %v", short(l), len(got), fault)
	}
	if !slices.Equal(l, was) {
		t.Fatalf("Fold has changed %s", short(was))
	}
	return got
}

// wantRow asks for what comes of a tree.
func wantRow(t testing.TB, l, want []api.Node) {
	t.Helper()
	if got := folded(t, l); !slices.Equal(got, want) {
		t.Errorf("Fold(%s):\n%s\nwant\n%s", short(l), short(got), short(want))
	}
}

// wantStays asks whether nothing is folded.
func wantStays(t testing.TB, l []api.Node) {
	t.Helper()
	wantRow(t, l, l)
}

// wantLiteral asks for the literal that all of an expression becomes, with the place of its first node.
func wantLiteral(t testing.TB, expression []api.Node, want api.Node) {
	t.Helper()
	l := returned(expression)
	want.At = l[ahead].At
	wantRow(t, l, append(slices.Clone(l[:ahead]), want))
}

func printed(t testing.TB, l []api.Node) string {
	t.Helper()
	s, e := tree.Print(l)
	if e != api.OK {
		t.Fatalf("Print(%s) is %d", short(l), e)
	}
	return s
}

// wantSource asks for a source's text, by Source and by Fold.
func wantSource(t testing.TB, src, want string) {
	t.Helper()
	if got, fault := fold.Source(src); got != want || fault != (api.Fault{}) {
		t.Errorf("Source(%s): %s, %v\nwant %s", short(src), short(got), fault, short(want))
	}
	if got := printed(t, folded(t, parsed(t, src))); got != want {
		t.Errorf("Print of Fold of %s: %s\nwant %s", short(src), short(got), short(want))
	}
}

// wantExpression asks for the text of an expression in which a and b are variables, and h and f functions.
func wantExpression(t testing.TB, expression, want string) {
	t.Helper()
	wantSource(t, "fn h() { } fn f(a, b) { return "+expression+"; }", "fn h ( ) { } fn f ( a , b ) { return "+want+" ; }\n")
}

func wantFault(t testing.TB, l []api.Node, want api.Fault) {
	t.Helper()
	was := slices.Clone(l)
	if got, fault := fold.Fold(l); len(got) > 0 || fault != want {
		t.Errorf("Fold(%s): %d nodes, %v; want %v", short(l), len(got), fault, want)
	}
	if !slices.Equal(l, was) {
		t.Errorf("Fold has changed %s", short(was))
	}
}

func wantSourceFault(t testing.TB, src string, want api.Fault) {
	t.Helper()
	if got, fault := fold.Source(src); got != "" || fault != want {
		t.Errorf("Source(%s): %s, %v; want %v", short(src), short(got), fault, want)
	}
}
