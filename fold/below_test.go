package fold_test

import (
	"slices"
	"strings"
	"testing"

	"casket/api"
)

// Promise 19.2: kids ahead of their parents, places, and trees that stay.

func TestFromBelow(t *testing.T) {
	for _, x := range []struct{ is, want string }{
		{"1 + 2 * 3 - 4 // 2", "5"}, {"(1 + 2) * (3 + 4)", "21"}, {"a + 1 + 2", "( ( a + 1 ) + 2 )"}, {"a + (1 + 2)", "( a + 3 )"}, {"1 + 2 + a", "( 3 + a )"}, {"1 + 2 + a + (3 + 4)", "( ( 3 + a ) + 7 )"},
		{`len(text(1 + 9) + sub("abcdef", 0, 3))`, "5"}, {`text(text(text(1)))`, `"1"`}, {`num(text(5) + text(6)) + 1`, "57"}, {`chr(byte("A", 0) + 1)`, `"B"`}, {"frombits(bits(0x1p+0))", "0x1p+0"}, {"kind(1 / 1)", `"float"`}, {"int(float(3))", "3"},
		{`kind(1 == 1) == "bool" and not (len("ab") > 2)`, "true"},
		{"-(1 - 1)", "0"}, {"(1 - 2) * (3 - 2)", "( ( 1 - 2 ) * 1 )"}, {"1 // 0 + (2 + 3)", "( ( 1 // 0 ) + 5 )"}, {"a[1 + 1] + a[2 * 2 + len(\"x\")]", "( a [ 2 ] + a [ 5 ] )"},
	} {
		wantExpression(t, x.is, x.want)
	}
}

// A node that is folded has its own place, its kids' are gone; all others have theirs.
func TestPlaces(t *testing.T) {
	src := "fn f(a) { let b = a + (1 + 2); out (3 < 4) and (5 < 6); return f(len(\"ab\")) * (7 - (2 - 1)); }"
	at := func(piece string, from int) int { return strings.Index(src[from:], piece) + from }
	out := at("out", 0)
	back := at("return", 0)
	wantRow(t, parsed(t, src), []api.Node{
		{Kind: api.NodeProgram, Kids: 1},
		{Kind: api.NodeFunc, At: 3, Kids: 2, Text: "f"},
		{Kind: api.NodeParam, At: 5, Text: "a"},
		{Kind: api.NodeBlock, At: 8, Kids: 3},
		{Kind: api.NodeLet, At: 14, Kids: 1, Text: "b"},
		{Kind: api.NodeBinary, At: at("+", 0), Kids: 2, Text: "+"},
		{Kind: api.NodeName, At: 18, Text: "a"},
		{Kind: api.NodeInt, At: at("1 +", 0) + 2, Int: 3},
		{Kind: api.NodeOut, At: out, Kids: 1},
		{Kind: api.NodeTrue, At: at("and", 0)},
		{Kind: api.NodeReturn, At: back, Kids: 1},
		{Kind: api.NodeBinary, At: at("*", 0), Kids: 2, Text: "*"},
		{Kind: api.NodeCall, At: at("f(len", 0), Kids: 1, Text: "f"},
		{Kind: api.NodeInt, At: at("len", 0), Int: 2},
		{Kind: api.NodeInt, At: at("7 -", 0) + 2, Int: 6},
	})
}

// An expression that stands alone has its statement at the same place, as Parse has it.
func TestPlaceOfExpressionAlone(t *testing.T) {
	l := folded(t, parsed(t, "fn f() { 1 + 2; text(not true); }"))
	want := []api.Node{{Kind: api.NodeExpr, At: 11, Kids: 1}, {Kind: api.NodeInt, At: 11, Int: 3}, {Kind: api.NodeExpr, At: 16, Kids: 1}, {Kind: api.NodeText, At: 16, Text: "false"}}
	if !slices.Equal(l[3:], want) {
		t.Errorf("%v", l)
	}
}

// Places may be any numbers at all.
func TestStrangePlaces(t *testing.T) {
	l := parsed(t, "fn f() { return 1 + 2; }")
	for _, at := range []int{-1, 0, 1 << 40, -1 << 63, 1<<63 - 1} {
		l[4].At = at
		wantRow(t, l, append(slices.Clone(l[:4]), api.Node{Kind: api.NodeInt, At: at, Int: 3}))
	}
}

// chain is an expression in which n nodes stand above the innermost one.
func chain(n int, around func(inner []api.Node) []api.Node, inner []api.Node) []api.Node {
	for range n {
		inner = around(inner)
	}
	return inner
}

// Expressions as deep as Check takes them: 4 MaxNest nodes above one.
func TestDeep(t *testing.T) {
	const n = 4*api.MaxNest - (ahead - 1) // the parameter is not above
	for _, x := range []struct {
		around  func(inner []api.Node) []api.Node
		want    api.Node
		deepest int // the place in the row of the first node that is too deep, if there is one more
	}{
		{func(inner []api.Node) []api.Node { return of(api.NodeNot, "", inner) }, yes, ahead + n + 1},
		{func(inner []api.Node) []api.Node { return of(api.NodeOr, "", inner, leaf(no)) }, yes, ahead + n + 1},
		{func(inner []api.Node) []api.Node { return of(api.NodeAnd, "", leaf(yes), inner) }, yes, ahead + 2*n + 1},
	} {
		wantLiteral(t, chain(n, x.around, leaf(yes)), x.want)
		wantStays(t, returned(chain(n, x.around, leaf(name("a")))))
		l := returned(chain(n+1, x.around, leaf(yes)))
		wantFault(t, l, api.Fault{Code: api.ErrNest, At: l[x.deepest].At})
	}
	wantLiteral(t, chain(n-1, func(inner []api.Node) []api.Node { return of(api.NodeNot, "", inner) }, leaf(yes)), no)
	sum := func(inner []api.Node) []api.Node { return of(api.NodeBinary, "+", inner, leaf(whole(2))) }
	wantLiteral(t, chain(n, sum, leaf(whole(0))), whole(2*n))
	join := func(inner []api.Node) []api.Node { return of(api.NodeBinary, "+", inner, leaf(text("ab"))) }
	wantLiteral(t, chain(n, join, leaf(text(""))), text(strings.Repeat("ab", n)))
	twice := func(inner []api.Node) []api.Node {
		return of(api.NodeCall, "text", of(api.NodeCall, "len", of(api.NodeCall, "text", inner)))
	}
	wantLiteral(t, chain(n/3, twice, leaf(text("a"))), text("1"))
}

// A full tree of expressions: all of it is one literal.
func TestWide(t *testing.T) {
	row := leaf(whole(1))
	for range 15 {
		row = of(api.NodeBinary, "+", row, row)
	}
	// One constant, and few registers: the tree is wide, not high.
	wantLiteral(t, row, whole(1<<15))
}

// A function that has room for no more constants.
func TestTooManyConstants(t *testing.T) {
	list := many(api.MaxConsts-2, "#;") // 0 to 61
	for _, x := range []struct {
		more  string
		folds bool
	}{
		{"100 + 200;", true},                      // 300 comes in the place of both
		{"100; 100 + 200;", true},                 // in the place of one
		{"100; 200; 100 + 200;", false},           // beside both
		{"100; 200; 1 + 2;", true},                // 3 is there already
		{"100; 200; 60 + 61;", false},             // 121
		{"100; 200; 60 < 61;", true},              // truths are no constants
		{"100; 200; 60 / 60;", false},             // the double 1 is not the whole number
		{`100; 200; text(60);`, false},            // a string is not either
		{"100; 200; 60 < 61; 60 + 61;", false},    // what could be folded stays, too
		{"100 + 1; 200; 60 + 61;", false},         // 101, 200, 121
		{"100; 60 + 61;", true},                   // 100, 121
		{"100 + 21; 60 + 61;", true},              // both are 121
		{"100; 200; not true; true and 1;", true}, // none comes
	} {
		src := "fn g() { 1 + 2; } fn f() { " + list + x.more + " }"
		l := parsed(t, src)
		if x.folds {
			wantRow(t, l, modelFold(l))
			if got := folded(t, l); len(got) >= len(l) {
				t.Errorf("%s: nothing is folded", x.more)
			}
			continue
		}
		wantStays(t, l)
		wantSource(t, src, printed(t, l))
	}
}

// Constants are counted for each function: what one has not, another one has.
func TestConstantsOfEach(t *testing.T) {
	full := many(api.MaxConsts, "#;")
	wantStays(t, parsed(t, "fn f() { "+full+" 1 + 63; }"))
	l := parsed(t, "fn f() { "+full+" } fn g() { return 1 + 63; }")
	wantRow(t, l, modelFold(l))
	if n := len(folded(t, l)); n != len(l)-2 {
		t.Errorf("%d nodes of %d", n, len(l))
	}
}
