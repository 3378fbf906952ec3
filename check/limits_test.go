package check_test

import (
	"strings"
	"testing"

	"casket/api"
	"casket/check"
)

// Promise 13.2: ErrNest, ErrConsts and ErrRegs.

const deepest = 4 * api.MaxNest

// aboveStatement is how many nodes stand above a statement of a function: the program, the function, its block.
const aboveStatement = 3

func TestNests(t *testing.T) {
	nots := deepest - aboveStatement - 1
	wantTaken(t, "fn f() { "+strings.Repeat("not ", nots)+"true; }")
	wantFault(t, "fn f() { "+strings.Repeat("not ", nots+1)+"@true; }", api.ErrNest)
	wantFault(t, "fn f() { "+strings.Repeat("not ", nots+1)+"@not true; }", api.ErrNest)
	wantFault(t, "fn f() { "+strings.Repeat("not ", nots+1)+"@not "+strings.Repeat("not ", 5000)+"true; }", api.ErrNest)
	wantFault(t, "fn f() { out true; out "+strings.Repeat("-", nots+1)+"@1; out 1; }", api.ErrNest)
}

// The operators of a sum stand one within another: the first of the numbers is the deepest.
func TestNestsToTheLeft(t *testing.T) {
	sums := deepest - aboveStatement - 1
	wantTaken(t, "fn f(a) { return a"+strings.Repeat(" + a", sums)+"; }")
	wantFault(t, "fn f(a) { return @a"+strings.Repeat(" + a", sums+1)+"; }", api.ErrNest)
	wantFault(t, "fn f(a) { return a @+ a"+strings.Repeat(" + a", sums+1)+"; }", api.ErrNest)
}

// Each kind of node may be the one that stands too deep; what else is wrong with it is not told.
func TestNestsOfEachKind(t *testing.T) {
	deep := strings.Repeat("if true { } else ", deepest-aboveStatement)
	wantTaken(t, "fn f() { "+deep+"{ } }")
	wantFault(t, "fn f() { "+deep+"if @true { } }", api.ErrNest)
	wantFault(t, "fn f() { "+deep+"if @x { } }", api.ErrNest)
	wantFault(t, "fn f() { "+deep+"{ @break; } }", api.ErrNest)
	wantFault(t, "fn f() { "+deep+"{ @continue l; } }", api.ErrNest)
	wantFault(t, "fn f() { "+deep+"{ @return; } }", api.ErrNest)
	wantFault(t, "fn f() { "+deep+"{ @x = 1; } }", api.ErrNest)
	wantFault(t, "fn f() { "+deep+"{ let @a = 1; } }", api.ErrNest)
	wantFault(t, "fn f() { "+deep+"{ l: @for i in 0..1 { } } }", api.ErrNest)
	wantFault(t, "fn f() { "+deep+"{ l: @while true { } } }", api.ErrNest)
	wantFault(t, "fn f() { "+deep+"{ @nope(); } }", api.ErrNest)
	wantFault(t, "fn f() { "+deep+filled("{ @while true { ? } }", 3, 1500)+" }", api.ErrNest)
	less := strings.Repeat("if true { } else ", deepest-aboveStatement-2)
	wantTaken(t, "fn f() { "+less+"{ l: for i in 0..1 { } } }")
	wantFault(t, "fn f() { "+less+"{ for i in 0..1 { @nope(); } } }", api.ErrNest)
	wantFault(t, "fn f() { "+less+"{ @f(1); } }", api.ErrCount)
	less = strings.Repeat("if true { } else ", deepest-aboveStatement-1)
	wantFault(t, "fn f() { "+less+"{ @l: for i in 0..1 { } } }", api.ErrNest)
}

// deepRow is a row of nodes one above another, which no source could have.
func deepRow(n int) []api.Node {
	l := []api.Node{{Kind: api.NodeProgram, Kids: 1}, {Kind: api.NodeFunc, Kids: 1, Text: "f"}, {Kind: api.NodeBlock, Kids: 1}, {Kind: api.NodeOut, Kids: 1}}
	for len(l) < n {
		l = append(l, api.Node{Kind: api.NodeNot, At: len(l), Kids: 1})
	}
	return append(l, api.Node{Kind: api.NodeNil, At: len(l)})
}

func TestDeepRows(t *testing.T) {
	for _, n := range []int{4, 5, deepest - 1, deepest} {
		l := deepRow(n)
		if got := check.Check(l); got != (api.Fault{}) || check.Regs(l, "f") != 1 {
			t.Errorf("%d above: %v, Regs %d", n, got, check.Regs(l, "f"))
		}
	}
	for _, n := range []int{deepest + 1, deepest + 2, 1 << 16, 1 << 20} {
		l := deepRow(n)
		if got := check.Check(l); got != (api.Fault{Code: api.ErrNest, At: deepest + 1}) {
			t.Errorf("%d above: %v", n, got)
		}
		if check.Regs(l, "f") != 0 || len(check.Sites(l)) > 0 {
			t.Errorf("%d above: Regs %d, Sites %v", n, check.Regs(l, "f"), check.Sites(l))
		}
	}
}

func TestConstants(t *testing.T) {
	wantTaken(t, "fn f() { "+many(api.MaxConsts, "#; ")+"}")
	wantFault(t, "fn @f() { "+many(api.MaxConsts+1, "#; ")+"}", api.ErrConsts)
	wantTaken(t, "fn f() { "+many(api.MaxConsts, "\"#\"; ")+"}")
	wantFault(t, "fn @f() { "+many(api.MaxConsts+1, "\"#\"; ")+"}", api.ErrConsts)
	wantTaken(t, "fn f() { "+many(api.MaxConsts, "0x1p+#; ")+"}")
	wantFault(t, "fn @f() { "+many(api.MaxConsts+1, "0x1p+#; ")+"}", api.ErrConsts)
	wantFault(t, "fn @f() { "+many(5000, "#; ")+"}", api.ErrConsts)
}

// One number as a whole number, as a double and as a string are three values.
func TestConstantsByKind(t *testing.T) {
	wantTaken(t, "fn f() { "+many(api.MaxConsts-3, "#; ")+"0x0p+0; \"\"; \"0\"; }")
	wantFault(t, "fn @f() { "+many(api.MaxConsts-2, "#; ")+"0x0p+0; \"\"; \"0\"; }", api.ErrConsts)
	wantTaken(t, "fn f() { "+many(21, "#; 0x#p+0; \"#\"; ")+"\"\"; }")
	wantFault(t, "fn @f() { "+many(21, "#; 0x#p+0; \"#\"; ")+"\"\"; inf; }", api.ErrConsts)
	wantFault(t, "fn @f() { "+many(api.MaxConsts-1, "#; ")+"nan; inf; }", api.ErrConsts)
	wantTaken(t, "fn f() { "+many(api.MaxConsts-2, "#; ")+"nan; inf; }")
}

// The same value many times is one; 0x1p+1 and 0x2p+0 are one double; what is neither number nor string is none.
func TestSameConstants(t *testing.T) {
	all := many(api.MaxConsts-2, "#; ") + "0x1p+1; \"a\"; "
	wantTaken(t, "fn f() { "+strings.Repeat(all, 5)+"}")
	wantTaken(t, "fn f() { "+all+"0x2p+0; 0x8p-2; \"\\x61\"; }")
	wantTaken(t, "let g; fn f(a) { "+all+"true; false; nil; g; a; f(0); len(\"a\"); 1 + 2; }")
	wantFault(t, "fn @f() { "+all+"\"b\"; }", api.ErrConsts)
	wantFault(t, "fn @f() { "+all+"0x1p+2; }", api.ErrConsts)
}

// Constants are counted wherever they stand in the function, and of each function alone.
func TestConstantsOfOneFunction(t *testing.T) {
	half := many(api.MaxConsts/2, "#; ")
	rest := strings.ReplaceAll(half, "; ", "00; ") // 000 is no number
	rest = strings.Replace(rest, "000;", "99;", 1)
	wantTaken(t, "fn f() { if true { "+half+"} for i in 0..1 { "+rest+"} }")
	wantFault(t, "fn @f() { if 77 { "+half+"} for i in 0..1 { "+rest+"} }", api.ErrConsts)
	wantTaken(t, "fn f() { "+half+"} fn g() { "+rest+"} fn h() { "+half+rest+"}")
	wantTaken(t, "fn f() { "+many(api.MaxConsts, "#; ")+"} fn g() { "+many(api.MaxConsts, "\"#\"; ")+"}")
	wantFault(t, "fn f() { "+half+"} fn @g() { "+half+rest+"77; } fn h() { "+half+"}", api.ErrConsts)
}

func TestRegistersByParameters(t *testing.T) {
	params := list(api.MaxParams, "p#")
	more := api.MaxRegs - api.MaxParams
	wantTaken(t, "fn f("+params+") { "+many(more, "let a# = nil; ")+"}")
	wantFault(t, "fn @f("+params+") { "+many(more+1, "let a# = nil; ")+"}", api.ErrRegs)
	wantFault(t, "fn @f("+params+") { "+many(more, "let a# = nil; ")+"nil; }", api.ErrRegs)
	wantTaken(t, "fn f("+params+") { "+many(more, "let a# = nil; ")+"return; }")
}

func TestRegistersByLets(t *testing.T) {
	wantTaken(t, "fn f() { "+many(api.MaxRegs, "let a# = nil; ")+"}")
	wantFault(t, "fn @f() { "+many(api.MaxRegs+1, "let a# = nil; ")+"}", api.ErrRegs)
	wantFault(t, "fn @f() { "+many(500, "let a# = nil; ")+"}", api.ErrRegs)
	wantTaken(t, "fn f() { "+many(500, "if true { let a# = nil; } ")+"}")
	wantTaken(t, "fn f() { "+many(60, "let a# = nil; if true { ")+"let a = nil; let b = nil; let c = nil; let d = nil; "+strings.Repeat("} ", 60)+"}")
	wantFault(t, "fn @f() { "+many(60, "let a# = nil; if true { ")+"let a = nil; let b = nil; let c = nil; let d = nil; nil; "+strings.Repeat("} ", 60)+"}", api.ErrRegs)
}

func TestRegistersByFors(t *testing.T) {
	fors := func(n int, within string) string {
		return many(n, "for i# in nil..nil { ") + within + strings.Repeat("} ", n)
	}
	n := api.MaxRegs / 3
	wantTaken(t, "fn f() { "+fors(n, "")+"}")
	wantTaken(t, "fn f() { "+fors(n, "nil; ")+"}")
	wantFault(t, "fn @f() { "+fors(n, "let a = nil; nil; ")+"}", api.ErrRegs)
	wantFault(t, "fn @f() { "+fors(n+1, "")+"}", api.ErrRegs)
	wantTaken(t, "fn f(a) { "+fors(n, "")+"}")
	wantFault(t, "fn @f(a) { "+fors(n, "nil; ")+"}", api.ErrRegs)
	wantTaken(t, "fn f() { "+many(100, "for i in nil..nil { } ")+"}")
}

func TestRegistersByCalls(t *testing.T) {
	calls := func(n int) string { return strings.Repeat("g(nil, ", n) + "nil" + strings.Repeat(")", n) }
	head := "fn g(a, b) { } "
	wantTaken(t, head+"fn f(a, b) { "+calls(61)+"; }")
	wantFault(t, head+"fn @f(a, b, c) { "+calls(61)+"; }", api.ErrRegs)
	wantTaken(t, head+"fn f() { "+calls(60)+" + g(nil, nil); }")
	sums := strings.Repeat("nil + (", 62) + "nil + nil" + strings.Repeat(")", 62)
	wantTaken(t, "fn f() { "+sums+"; }")
	wantFault(t, "fn @f(a) { "+sums+"; }", api.ErrRegs)
	wantFault(t, "fn @f() { nil[nil] = "+sums+"; }", api.ErrRegs)
}

// What is wrong behind a function, or with a later one, is not told.
func TestOfTwoFunctions(t *testing.T) {
	lets := many(api.MaxRegs+1, "let a# = nil; ")
	wantFault(t, "fn f() { } fn @g() { "+lets+"} fn h() { x; }", api.ErrRegs)
	wantFault(t, "fn @g() { "+lets+"} fn h() { "+many(100, "#; ")+"}", api.ErrRegs)
	wantFault(t, "fn @h() { "+many(100, "#; ")+"} fn g() { "+lets+"}", api.ErrConsts)
}
