package tree_test

import (
	"fmt"
	"slices"
	"strings"
	"testing"

	"casket/api"
	"casket/tree"
)

// Promise 12.2: what binds more tightly, and what stands ahead is the left kid.

// twos are all operators of two.
func twos() []string {
	var list []string
	for level := 1; level <= 10; level++ {
		list = append(list, operators[level]...)
	}
	return list
}

// between is the tree of names with operators between them, in brackets: the last one of those that bind least is the outermost.
func between(names, list []string) string {
	if len(list) == 0 {
		return names[0]
	}
	outer := 0
	for i, operator := range list {
		if levelOf(operator) <= levelOf(list[outer]) {
			outer = i
		}
	}
	return "( " + between(names[:outer+1], list[:outer]) + " " + list[outer] + " " + between(names[outer+1:], list[outer+1:]) + " )"
}

// secondComparison is the first operator that compares what has been compared already; -1, if there is none.
func secondComparison(list []string) int {
	compared := false
	for i, operator := range list {
		switch level := levelOf(operator); {
		case level < 4:
			compared = false
		case level == 4 && compared:
			return i
		case level == 4:
			compared = true
		}
	}
	return -1
}

func wantBetween(t *testing.T, list ...string) {
	t.Helper()
	names := []string{"a", "b", "c", "d", "e"}[:len(list)+1]
	src, places := "fn f ( ) { return a", []int{}
	for i, operator := range list {
		places = append(places, len(src)+1)
		src += " " + operator + " " + names[i+1]
	}
	src += " ; }"
	if i := secondComparison(list); i >= 0 {
		wantFault(t, src, api.ErrSyntax, places[i])
		return
	}
	l, f := tree.Parse(src)
	text, e := tree.Print(l)
	if want := "fn f ( ) { return " + between(names, list) + " ; }\n"; f != (api.Fault{}) || e != api.OK || text != want {
		t.Errorf("%q: %v, %d\n got %q\nwant %q", src, f, e, text, want)
	}
	var at []int
	for _, n := range l {
		if n.Kind == api.NodeOr || n.Kind == api.NodeAnd || n.Kind == api.NodeBinary {
			at = append(at, n.At)
		}
	}
	slices.Sort(at)
	if !slices.Equal(at, places) {
		t.Errorf("%q: operators at %v", src, at)
	}
}

func TestOneOperator(t *testing.T) {
	for _, operator := range twos() {
		kind := map[string]string{"or": "Or", "and": "And"}[operator]
		if kind == "" {
			kind = "Binary " + operator
		}
		wantValue(t, "a "+operator+" b", fmt.Sprintf("%s 2 (Name a 0, Name b %d)", kind, 3+len(operator)))
	}
}

// Every two operators between three names: of one level, of two, and two comparisons.
func TestTwoOperators(t *testing.T) {
	for _, p := range twos() {
		for _, q := range twos() {
			wantBetween(t, p, q)
		}
	}
}

func TestThreeOperators(t *testing.T) {
	for _, p := range twos() {
		for _, q := range twos() {
			for _, r := range twos() {
				wantBetween(t, p, q, r)
			}
		}
	}
}

// One operator of each level, four of them in each order.
func TestFourOperators(t *testing.T) {
	few := []string{"or", "and", "<=", "|", "^", "&", ">>", "-", "//"}
	for _, p := range few {
		for _, q := range few {
			for _, r := range few {
				for _, s := range few {
					wantBetween(t, p, q, r, s)
				}
			}
		}
	}
}

// Brackets hold together what binds less.
func TestBrackets(t *testing.T) {
	for _, p := range twos() {
		for _, q := range twos() {
			for _, x := range [][2]string{
				{"( a " + p + " b ) " + q + " c", "( ( a " + p + " b ) " + q + " c )"},
				{"a " + p + " ( b " + q + " c )", "( a " + p + " ( b " + q + " c ) )"},
				{"( a " + p + " b )", "( a " + p + " b )"},
			} {
				wantPrinted(t, x[0], x[1])
			}
		}
	}
}

// wantPrinted asks for the text of an expression's tree.
func wantPrinted(t *testing.T, src, want string) {
	t.Helper()
	l := parsed(t, "fn f(){return "+src+";}")
	text, _ := tree.Print(l)
	got, _ := strings.CutPrefix(text, "fn f ( ) { return ")
	if got, _ = strings.CutSuffix(got, " ; }\n"); got != want {
		t.Errorf("%q: %q; want %q", src, got, want)
	}
}

// One operator of one within another.
func TestOnesOfOnes(t *testing.T) {
	ones := []string{"not", "-", "~"}
	for _, p := range ones {
		wantPrinted(t, p+" a", "( "+p+" a )")
		wantPrinted(t, p+"(a)", "( "+p+" a )")
		wantPrinted(t, p+" a[1]", "( "+p+" a [ 1 ] )")
		wantPrinted(t, p+" a[1][2]", "( "+p+" a [ 1 ] [ 2 ] )")
		wantPrinted(t, p+" g(1)", "( "+p+" g ( 1 ) )")
		wantPrinted(t, "("+p+" a)[1]", "( "+p+" a ) [ 1 ]")
		wantPrinted(t, "a["+p+" b]", "a [ ( "+p+" b ) ]")
		wantPrinted(t, "g("+p+" b,"+p+" c)", "g ( ( "+p+" b ) , ( "+p+" c ) )")
		for _, q := range ones {
			wantPrinted(t, p+" ("+q+" a)", "( "+p+" ( "+q+" a ) )")
			if p != "not" && q == "not" {
				wantFault(t, "fn f(){"+p+" "+q+" a;}", api.ErrSyntax, 7+len(p)+1)
				continue
			}
			wantPrinted(t, p+" "+q+" a", "( "+p+" ( "+q+" a ) )")
			for _, r := range ones {
				if q != "not" && r == "not" {
					wantFault(t, "fn f(){"+p+" "+q+" "+r+" a;}", api.ErrSyntax, 7+len(p)+1+len(q)+1)
					continue
				}
				wantPrinted(t, p+" "+q+" "+r+" a", "( "+p+" ( "+q+" ( "+r+" a ) ) )")
			}
		}
	}
	wantValue(t, "--a", "Unary - 0 (Unary - 1 (Name a 2))")
	wantValue(t, "~-~a", "Unary ~ 0 (Unary - 1 (Unary ~ 2 (Name a 3)))")
	wantValue(t, "not  not -a", "Not 0 (Not 5 (Unary - 9 (Name a 10)))")
	wantValue(t, "-1", "Unary - 0 (Int 1 1)")
	wantValue(t, "-9223372036854775807", "Unary - 0 (Int 9223372036854775807 1)")
	wantFault(t, "fn f(){-9223372036854775808;}", api.ErrNumber, 8)
}

// An operator of one ahead of one of two, on either side of it.
func TestOnesAndTwos(t *testing.T) {
	for _, two := range twos() {
		for _, one := range []string{"-", "~"} {
			wantPrinted(t, one+" a "+two+" b", "( ( "+one+" a ) "+two+" b )")
			wantPrinted(t, "a "+two+" "+one+" b", "( a "+two+" ( "+one+" b ) )")
			wantPrinted(t, one+" ( a "+two+" b )", "( "+one+" ( a "+two+" b ) )")
		}
		if levelOf(two) < 3 {
			wantPrinted(t, "not a "+two+" b", "( ( not a ) "+two+" b )")
			wantPrinted(t, "a "+two+" not b", "( a "+two+" ( not b ) )")
		} else {
			wantPrinted(t, "not a "+two+" b", "( not ( a "+two+" b ) )")
			wantFault(t, "fn f(){a "+two+" not b;}", api.ErrSyntax, 7+3+len(two))
		}
		wantPrinted(t, "( not a ) "+two+" b", "( ( not a ) "+two+" b )")
	}
	wantPrinted(t, "a - - b", "( a - ( - b ) )")
	wantPrinted(t, "a--b", "( a - ( - b ) )")
	wantPrinted(t, "a - -b - c", "( ( a - ( - b ) ) - c )")
	wantPrinted(t, "- a * - b", "( ( - a ) * ( - b ) )")
	wantPrinted(t, "not a == not_b", "( not ( a == not_b ) )")
	wantPrinted(t, "not a == b and not c or d", "( ( ( not ( a == b ) ) and ( not c ) ) or d )")
	for _, none := range []string{"a not b", "a ~ b", "a ! b", "a & & b", "a + * b", "* a", "/ a", "or a", "a or", "a and", "a +", "a <", "not", "-", "()", "a ()b", "a == == b", "a < = b", "a . . b"} {
		if _, f := tree.Parse("fn f(){return " + none + ";}"); f.Code == api.OK {
			t.Errorf("%q is taken", none)
		}
	}
}
