package fold_test

import (
	"testing"

	"casket/api"
)

// Promise 19.2: and, or.

func TestAndOr(t *testing.T) {
	for _, x := range []struct{ is, want string }{
		{"true and true", "true"}, {"true and false", "false"}, {"false and true", "false"}, {"false and false", "false"},
		{"true or true", "true"}, {"true or false", "true"}, {"false or true", "true"}, {"false or false", "false"},
		{"true and a", "( true and a )"}, {"false or a", "( false or a )"}, {"a and true", "( a and true )"}, {"a and false", "( a and false )"}, {"a or true", "( a or true )"}, {"a or false", "( a or false )"}, {"a and b", "( a and b )"}, {"a or b", "( a or b )"},
		{"true and 1", "( true and 1 )"}, {"true and nil", "( true and nil )"}, {`false or ""`, `( false or "" )`}, {"false or 0x1p+0", "( false or 0x1p+0 )"}, {"1 and false", "( 1 and false )"}, {"0 or true", "( 0 or true )"}, {"nil and nil", "( nil and nil )"}, {"nil or false", "( nil or false )"}, {`"true" and true`, `( "true" and true )`},
		// within one another
		{"true and true and true", "true"}, {"true and true and a", "( true and a )"}, {"true and a and true", "( ( true and a ) and true )"}, {"false and a and b", "false"}, {"a and false and b", "( ( a and false ) and b )"},
		{"false or false or true or a", "true"}, {"a or true or b", "( ( a or true ) or b )"}, {"false and a or not true", "false"}, {"false and a or b", "( false or b )"}, {"a and (true or b)", "( a and true )"}, {"a or (false and b)", "( a or false )"},
		{"true and (1 or true)", "( true and ( 1 or true ) )"}, {"not (true and false)", "true"}, {"not false and not false", "true"}, {"1 < 2 and 2 < 3", "true"}, {"1 < 2 or 1 + true", "true"}, {"1 > 2 and 1 + true", "false"}, {"1 < 2 and 1 + true", "( true and ( 1 + true ) )"}, {"1 > 2 or 1 + true", "( false or ( 1 + true ) )"},
		{"(a or b) and (true and true)", "( ( a or b ) and true )"}, {"(true or b) == (false and b)", "false"},
	} {
		wantExpression(t, x.is, x.want)
	}
}

// The first kid settles it alone: what stands behind may be anything, as long as Check takes it.
func TestSettled(t *testing.T) {
	seconds := [][]api.Node{
		leaf(null), leaf(yes), leaf(no), leaf(whole(0)), leaf(double(one)), leaf(text(filler(1001))), leaf(name("a")), of(api.NodeCall, "f", leaf(null)), of(api.NodeCall, "row", leaf(whole(1))),
		of(api.NodeIndex, "", leaf(name("a")), leaf(null)), of(api.NodeUnary, "-", leaf(null)), of(api.NodeBinary, "//", leaf(whole(1)), leaf(whole(0))), of(api.NodeNot, "", leaf(name("a"))), of(api.NodeOr, "", leaf(yes), leaf(name("a"))), of(api.NodeAnd, "", leaf(name("a")), leaf(no)),
	}
	for _, second := range seconds {
		wantLiteral(t, of(api.NodeAnd, "", leaf(no), second), no)
		wantLiteral(t, of(api.NodeOr, "", leaf(yes), second), yes)
	}
	// The other truth does not settle it, nor what is no truth: then all hangs on the second one.
	for _, first := range []api.Node{null, whole(0), whole(1), double(plusZero), double(one), text(""), text("a"), name("a")} {
		for _, second := range []api.Node{null, yes, no, whole(1), name("a")} {
			wantStays(t, returned(of(api.NodeAnd, "", leaf(first), leaf(second))))
			wantStays(t, returned(of(api.NodeOr, "", leaf(first), leaf(second))))
		}
	}
	for _, second := range []api.Node{null, whole(1), double(one), text("a"), name("a")} {
		wantStays(t, returned(of(api.NodeAnd, "", leaf(yes), leaf(second))))
		wantStays(t, returned(of(api.NodeOr, "", leaf(no), leaf(second))))
	}
	for _, second := range []api.Node{yes, no} {
		wantLiteral(t, of(api.NodeAnd, "", leaf(yes), leaf(second)), second)
		wantLiteral(t, of(api.NodeOr, "", leaf(no), leaf(second)), second)
	}
}

// A first kid with a truth within it is none: what stands behind the node in the row is not its second kid.
func TestFirstIsNoTruth(t *testing.T) {
	for _, kind := range []int{api.NodeAnd, api.NodeOr} {
		for _, inner := range []api.Node{yes, no} {
			wantStays(t, returned(of(kind, "", of(api.NodeIndex, "", leaf(inner), leaf(inner)), leaf(inner))))
			wantStays(t, returned(of(kind, "", of(api.NodeCall, "f", leaf(inner)), leaf(inner))))
		}
	}
}
