package tree_test

import (
	"slices"
	"testing"

	"casket/api"
	"casket/tree"
)

// The chapter's table 'Examples', row by row.

func TestExampleNothing(t *testing.T) {
	l, f := tree.Parse("")
	if !slices.Equal(l, []api.Node{{Kind: api.NodeProgram}}) || f != (api.Fault{}) {
		t.Errorf("%+v, %v", l, f)
	}
}

func TestExampleRow(t *testing.T) {
	l, f := tree.Parse("let g; fn f(a) { return a - 1 - g; }")
	want := []api.Node{
		{Kind: api.NodeProgram, Kids: 2},
		{Kind: api.NodeGlobal, At: 4, Text: "g"},
		{Kind: api.NodeFunc, At: 10, Kids: 2, Text: "f"},
		{Kind: api.NodeParam, At: 12, Text: "a"},
		{Kind: api.NodeBlock, At: 15, Kids: 1},
		{Kind: api.NodeReturn, At: 17, Kids: 1},
		{Kind: api.NodeBinary, At: 30, Kids: 2, Text: "-"},
		{Kind: api.NodeBinary, At: 26, Kids: 2, Text: "-"},
		{Kind: api.NodeName, At: 24, Text: "a"},
		{Kind: api.NodeInt, At: 28, Int: 1},
		{Kind: api.NodeName, At: 32, Text: "g"},
	}
	if !slices.Equal(l, want) || f != (api.Fault{}) {
		t.Errorf("%+v, %v", l, f)
	}
	if text, e := tree.Print(l); text != "let g ; fn f ( a ) { return ( ( a - 1 ) - g ) ; }\n" || e != api.OK {
		t.Errorf("Print of it: %q, %d", text, e)
	}
}

func TestExampleFaults(t *testing.T) {
	wantFault(t, "fn f() { 1 = 2; }", api.ErrSyntax, 11)
	wantFault(t, "fn f() { a < b < c; }", api.ErrSyntax, 15)
	wantFault(t, "fn f() { x: y: while", api.ErrSyntax, 12)
}

func TestExampleInBrackets(t *testing.T) {
	l, f := tree.Parse("fn f() { (a) = 1; }")
	want := []api.Node{{Kind: api.NodeProgram, Kids: 1}, {Kind: api.NodeFunc, At: 3, Kids: 1, Text: "f"}, {Kind: api.NodeBlock, At: 7, Kids: 1}, {Kind: api.NodeAssign, At: 10, Kids: 1, Text: "a"}, {Kind: api.NodeInt, At: 15, Int: 1}}
	if !slices.Equal(l, want) || f != (api.Fault{}) {
		t.Errorf("%+v, %v", l, f)
	}
}
