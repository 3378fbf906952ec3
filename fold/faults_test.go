package fold_test

import (
	"slices"
	"strings"
	"testing"

	"casket/api"
)

// Promises 19.2 and 19.3: what Check and Load refuse.

// Rows that are no tree.
func TestNoTrees(t *testing.T) {
	shape := api.Fault{Code: api.ErrShape}
	wantFault(t, nil, shape)
	wantFault(t, []api.Node{}, shape)
	for kind := -1; kind <= api.NodeNil+1; kind++ {
		if kind != api.NodeProgram {
			wantFault(t, []api.Node{{Kind: kind, At: 7}}, shape)
		}
	}
	right := parsed(t, "fn f(a) { if a { out 1 + 2; } return -a[len(\"x\")]; }")
	folded(t, right)
	for n := range right { // cut off, with what is missing in the room behind
		wantFault(t, right[:n], shape)
	}
	wantFault(t, append(slices.Clone(right), right...), shape)
	for i := range right {
		for _, turn := range []func(node *api.Node){
			func(node *api.Node) { node.Kind = 0 },
			func(node *api.Node) { node.Kind = 1 << 40 },
			func(node *api.Node) { node.Kids++ },
			func(node *api.Node) { node.Kids = 1<<63 - 1 },
			func(node *api.Node) { node.Kids = -1 },
			func(node *api.Node) { node.Bits = 1 << 63 },
			func(node *api.Node) { node.Int = -1 },
		} {
			l := slices.Clone(right)
			turn(&l[i])
			wantFault(t, l, shape)
		}
	}
	for _, expression := range [][]api.Node{
		leaf(whole(-1)), leaf(double(minusZero)), leaf(double(minusInf)), leaf(double(api.Canon + 1)), leaf(name("true")), leaf(name("")), leaf(name("A")), leaf(api.Node{Kind: api.NodeTrue, Text: "true"}),
		of(api.NodeBinary, "?", leaf(whole(1)), leaf(whole(2))), of(api.NodeBinary, "-", leaf(whole(1))), of(api.NodeBinary, "not", leaf(yes), leaf(yes)), of(api.NodeUnary, "not", leaf(yes)), of(api.NodeUnary, "-"), of(api.NodeNot, "not", leaf(yes)), of(api.NodeNot, ""),
		of(api.NodeAnd, "", leaf(no)), of(api.NodeOr, "", leaf(yes), leaf(yes), leaf(yes)), of(api.NodeCall, "", leaf(yes)), of(api.NodeBlock, ""), of(api.NodeAnd, "and", leaf(no), leaf(no)),
	} {
		wantFault(t, returned(expression), shape)
	}
}

// mark stands in a source ahead of the token at which the fault is told; it is no byte of the source.
const mark = "@"

// wantMarked asks Source, and Fold where there is a tree.
func wantMarked(t *testing.T, marked string, code api.Errno, hasTree bool) {
	t.Helper()
	at := strings.Index(marked, mark)
	src := strings.Replace(marked, mark, "", 1)
	if at < 0 || strings.Contains(src, mark) {
		t.Fatalf("%s has not one mark", short(marked))
	}
	wantSourceFault(t, src, api.Fault{Code: code, At: at})
	if !hasTree {
		return
	}
	l := parsed(t, src)
	wantFault(t, l, api.Fault{Code: code, At: at})
	for i := range l { // the place is the node's, whatever it is
		l[i].At -= 1000
	}
	wantFault(t, l, api.Fault{Code: code, At: at - 1000})
}

// What Check refuses: in what would stay, in what would be folded away, and where it would be right behind folding.
func TestRefusedTrees(t *testing.T) {
	deep := strings.Repeat("not ", 4*api.MaxNest-3) // program, function, block and statement stand above, too
	for _, x := range []struct {
		src  string
		code api.Errno
	}{
		{"fn f() { " + deep + "@true; }", api.ErrNest},
		{"let g; let @g; fn f() { 1 + 2; }", api.ErrTwice},
		{"fn f() { } fn @f() { }", api.ErrTwice},
		{"fn @len() { return len(\"a\"); }", api.ErrTwice},
		{"fn f(a, @a) { }", api.ErrTwice},
		{"fn f() { let a = 1 + 1; let @a = 2; }", api.ErrTwice},
		{"fn f() { l: while true { l: @while false { } } }", api.ErrTwice},
		{"fn f() { @x; }", api.ErrName},
		{"fn f() { return 1 + @x; }", api.ErrName},
		{"fn f() { return false and @x; }", api.ErrName},
		{"fn f() { return true or @g(1); }", api.ErrName},
		{"fn f() { @x = 1 + 2; }", api.ErrName},
		{"fn f() { return @len(); }", api.ErrCount},
		{"fn f() { return @sub(\"a\", 0); }", api.ErrCount},
		{"fn f() { return false and @chr(1, 2); }", api.ErrCount},
		{"fn f() { return @f(1 + 1); }", api.ErrCount},
		{"fn f() { @break; }", api.ErrLoop},
		{"fn f() { while 1 < 2 { @continue l; } }", api.ErrLoop},
		{"fn f() { @while true { " + strings.Repeat("1 + 1;", 250) + " } }", api.ErrSpan},
		{"fn @f() { " + many(65, "#;") + " }", api.ErrConsts},
		{"fn @f() { " + many(64, "1 < #;") + "1 < 64; }", api.ErrConsts},
		{"fn g() { 1 + 2; } fn @f() { return false and f(); " + many(65, "#;") + " }", api.ErrConsts},
		{"fn @f() { " + many(65, "let a# = 1;") + " }", api.ErrRegs},
		{"fn @f() { " + many(62, "let a# = 1;") + " return 1 + (1 + 1); }", api.ErrRegs},
	} {
		wantMarked(t, x.src, x.code, true)
	}
	// Just within the bounds: the same is folded.
	wantSource(t, "fn f() { "+many(61, "let a# = 1;")+" return 1 + (1 + 1); }", "fn f ( ) { "+many(61, "let a# = 1 ; ")+"return 3 ; }\n")
	wantSource(t, "fn f() { "+many(64, "1 < #;")+" }", "fn f ( ) { "+many(2, "false ; ")+many(62, "true ; ")+"}\n")
	wantSource(t, "fn f() { while true { "+strings.Repeat("1 + 1;", 249)+" } }", "fn f ( ) { while true { "+strings.Repeat("2 ; ", 249)+"} }\n")
}

// What Parse refuses.
func TestRefusedSources(t *testing.T) {
	for _, x := range []struct {
		src  string
		code api.Errno
	}{
		{mark + strings.Repeat(" ", api.MaxSource+1), api.ErrLong},
		{"fn f() { return 1 + 2; } @?", api.ErrByte},
		{"fn f() { return \"a\" + @\"b; }", api.ErrString},
		{"fn f() { return 1 + @007; }", api.ErrNumber},
		{"fn f() { return 1 + @9223372036854775808; }", api.ErrNumber},
		{"fn f() { return @" + strings.Repeat("a", 32) + "; }", api.ErrName},
		{"fn f() { return 1 + @; }", api.ErrSyntax},
		{"fn f() { 1 + 2 @}", api.ErrSyntax},
		{"fn f() { 1 @= 2; }", api.ErrSyntax},
		{"fn f() { " + strings.Repeat("(", 63) + "@(1" + strings.Repeat(")", 64) + "; }", api.ErrNest},
	} {
		wantMarked(t, x.src, x.code, false)
	}
}
