package check_test

import (
	"strings"
	"testing"

	"casket/api"
	"casket/check"
)

// Promise 13.4: Regs.

// wantAtEachHeight puts lets ahead of a statement, and parameters: it needs as many more.
func wantAtEachHeight(t *testing.T, statement string, want int) {
	t.Helper()
	for params := range 3 {
		for lets := range 4 {
			height := params + lets
			need := want + height
			if want == 0 {
				// It needs nothing itself: what is beneath it does.
				need = height
			}
			wantRegs(t, "let x; fn f("+list(params, "p#")+") { "+many(lets, "let v# = nil; ")+statement+" } fn g(a, b, c) { }", need)
		}
	}
}

func TestRegsOfNothing(t *testing.T) {
	wantAtEachHeight(t, "", 0)
	wantAtEachHeight(t, "return;", 0)
	wantAtEachHeight(t, "return; return;", 0)
}

func TestRegsOfPlainExpressions(t *testing.T) {
	for _, plain := range []string{"1", "0x1p+0", "\"a\"", "true", "false", "nil", "x", "h()"} {
		for _, form := range []string{"?;", "out ?;", "return ?;", "x = ?;", "let y = ?;", "if ? { }", "while ? { }", "-?;", "not ?;", "~?;", "not not - ~ ?;"} {
			statement := strings.Replace(form, "?", plain, 1)
			wantRegs(t, "let x; fn f() { "+statement+" } fn h() { }", 1)
			wantRegs(t, "let x; fn f(a, b) { let c = nil; "+statement+" } fn h() { }", 4)
		}
	}
}

func TestRegsOfOperators(t *testing.T) {
	for _, op := range strings.Fields("+ - * / // % & | ^ << >> < <= > >= == !=") {
		wantAtEachHeight(t, "x "+op+" x;", 2)
		wantAtEachHeight(t, "(x "+op+" x) "+op+" x;", 2)
		wantAtEachHeight(t, "x "+op+" (x "+op+" x);", 3)
		wantAtEachHeight(t, "(x "+op+" x) "+op+" (x "+op+" x);", 3)
	}
	wantAtEachHeight(t, "x or x or x;", 1)
	wantAtEachHeight(t, "x and (x or (x and x));", 1)
	wantAtEachHeight(t, "x or (x + x);", 2)
	wantAtEachHeight(t, "(x + x) and x;", 2)
	wantAtEachHeight(t, "not (x + -(x + x));", 3)
	wantAtEachHeight(t, "x + (x or x);", 2)
}

func TestRegsOfIndexes(t *testing.T) {
	wantAtEachHeight(t, "x[x];", 2)
	wantAtEachHeight(t, "x[x][x];", 2)
	wantAtEachHeight(t, "x[x[x]];", 3)
	wantAtEachHeight(t, "(x + x)[x + x];", 3)
	wantAtEachHeight(t, "x + x[x];", 3)
}

func TestRegsOfCalls(t *testing.T) {
	wantAtEachHeight(t, "g(x, x, x);", 3)
	wantAtEachHeight(t, "g(x + x, x, x);", 3)
	wantAtEachHeight(t, "g(x, x + x, x);", 3)
	wantAtEachHeight(t, "g(x, x, x + x);", 4)
	wantAtEachHeight(t, "g(x, x, g(x, x, x));", 5)
	wantAtEachHeight(t, "g(g(x, x, x), x, x);", 3)
	wantAtEachHeight(t, "g(x, g(x, x, g(x, x, x)), x);", 6)
	wantAtEachHeight(t, "x + g(x, x, x);", 4)
	wantAtEachHeight(t, "len(x);", 1)
	wantAtEachHeight(t, "store(x, x, x);", 3)
	wantAtEachHeight(t, "view(x, x, x, x);", 4)
	wantRegs(t, "fn f() { f(); }", 1)
	wantRegs(t, "fn f() { f() + f(); }", 2)
	wantRegs(t, "fn f(a) { f(f(f(a))); }", 2)
	wantRegs(t, "fn f() { return h("+list(api.MaxParams, "#")+"); } fn h("+list(api.MaxParams, "a#")+") { }", api.MaxParams)
}

func TestRegsOfStatements(t *testing.T) {
	wantAtEachHeight(t, "x = x + x;", 2)
	wantAtEachHeight(t, "return x + x;", 2)
	wantAtEachHeight(t, "out x + x;", 2)
	wantAtEachHeight(t, "x + x;", 2)
	wantAtEachHeight(t, "x[x] = x;", 3)
	wantAtEachHeight(t, "x[x] = x + x;", 4)
	wantAtEachHeight(t, "x[x + x] = x;", 3)
	wantAtEachHeight(t, "x[x + (x + x)] = x;", 4)
	wantAtEachHeight(t, "(x + (x + (x + x)))[x] = x;", 4)
	wantAtEachHeight(t, "x[x][x] = x;", 3)
}

func TestRegsOfLets(t *testing.T) {
	wantAtEachHeight(t, "let a = x;", 1)
	wantAtEachHeight(t, "let a = x + x;", 2)
	wantAtEachHeight(t, "let a = x; let b = a;", 2)
	wantAtEachHeight(t, "let a = x; a;", 2)
	wantAtEachHeight(t, "x; let a = x; return;", 1)
	wantAtEachHeight(t, "let a = x; a + a; let b = a; out b;", 3)
	wantAtEachHeight(t, "let a = x + (x + x); let b = x;", 3)
}

func TestRegsOfIfs(t *testing.T) {
	wantAtEachHeight(t, "if x { }", 1)
	wantAtEachHeight(t, "if x + x { }", 2)
	wantAtEachHeight(t, "if x { x + x; }", 2)
	wantAtEachHeight(t, "if x { } else { x + x; }", 2)
	wantAtEachHeight(t, "if x { } else if x + x { }", 2)
	wantAtEachHeight(t, "if x { } else if x { x + x; } else { x + (x + x); }", 3)
	wantAtEachHeight(t, "if x { let a = x; let b = x; } else { let a = x; }", 2)
	wantAtEachHeight(t, "if x { let a = x; let b = x; let c = x; } let a = x; x;", 3)
	wantAtEachHeight(t, "if x { let a = x; let b = x; if x { let c = x; x; } } x;", 4)
}

func TestRegsOfWhiles(t *testing.T) {
	wantAtEachHeight(t, "while x { }", 1)
	wantAtEachHeight(t, "l: while x + x { break l; }", 2)
	wantAtEachHeight(t, "while x { x + x; continue; }", 2)
	wantAtEachHeight(t, "while x { let a = x; let b = x; } x;", 2)
	wantAtEachHeight(t, "while x { let a = x; while x { let b = x; } }", 2)
}

func TestRegsOfFors(t *testing.T) {
	for _, label := range []string{"", "l: "} {
		wantAtEachHeight(t, label+"for i in x..x { }", 3)
		wantAtEachHeight(t, label+"for i in x..x { return; }", 3)
		wantAtEachHeight(t, label+"for i in x..x { i; }", 4)
		wantAtEachHeight(t, label+"for i in x..x { let a = i; }", 4)
		wantAtEachHeight(t, label+"for i in x..x { let a = i; i + i; }", 6)
		wantAtEachHeight(t, label+"for i in x + (x + x)..x { }", 3)
		wantAtEachHeight(t, label+"for i in x + (x + (x + x))..x { }", 4)
		wantAtEachHeight(t, label+"for i in x..x + x { }", 3)
		wantAtEachHeight(t, label+"for i in x..x + (x + x) { }", 4)
		wantAtEachHeight(t, label+"for i in x..x { for j in x..x { } }", 6)
		wantAtEachHeight(t, label+"for i in x..x { for j in x..x { j; } i; }", 7)
		wantAtEachHeight(t, label+"for i in x..x { } for i in x..x { } x;", 3)
	}
}

func TestRegsOfParameters(t *testing.T) {
	for n := range api.MaxParams + 1 {
		wantRegs(t, "fn f("+list(n, "a#")+") { }", n)
		wantRegs(t, "fn f("+list(n, "a#")+") { nil; }", n+1)
	}
}

func TestRegsOfNames(t *testing.T) {
	l := parsed(t, "let g; fn f(a) { } fn h(a, b, c) { out a; } fn i() { }")
	for name, want := range map[string]int{"f": 1, "h": 4, "i": 0, "g": 0, "a": 0, "": 0, "len": 0, "nope": 0, "F": 0, "f ": 0, "fn": 0} {
		if got := check.Regs(l, name); got != want {
			t.Errorf("Regs of %q: %d, want %d", name, got, want)
		}
	}
}

// A tree that needs too many registers is told how many, of each of its functions.
func TestRegsOfTooMany(t *testing.T) {
	lets := many(70, "let a# = nil; ")
	l := parsed(t, "fn f() { "+lets+"} fn g(a) { a; } fn h() { "+lets+"a0 + a1; }")
	if check.Check(l).Code != api.ErrRegs {
		t.Fatal(check.Check(l))
	}
	for name, want := range map[string]int{"f": 70, "g": 2, "h": 72, "i": 0} {
		if got := check.Regs(l, name); got != want {
			t.Errorf("Regs of %q: %d, want %d", name, got, want)
		}
	}
	wantNoSites(t, l)
	wantRegs(t, "fn f() { "+many(api.MaxRegs, "let a# = nil; ")+"nil; }", api.MaxRegs+1)
	wantRegs(t, "fn f() { "+many(3000, "let a# = nil; ")+"}", 3000)
}

// Every other fault, ahead of the function or behind it, leaves nothing; so does one beside ErrRegs.
func TestRegsOfFaults(t *testing.T) {
	lets := many(70, "let a# = nil; ")
	for _, x := range append(pieces, tooMuch[0]) {
		text := strings.Replace(x.text, mark, "", 1)
		for _, src := range []string{
			"fn f() { nil; } fn g() { if true { " + text + "} }",
			"fn g() { if true { " + text + "} } fn f() { nil; }",
			"fn f() { " + lets + "} fn g() { if true { " + text + "} }",
			"fn g() { if true { " + text + "} } fn f() { " + lets + "}",
			"fn f() { " + lets + "if true { " + text + "} }",
		} {
			l := parsed(t, src)
			if check.Check(l).Code == api.OK {
				t.Fatalf("%.90q is taken", src)
			}
			wantNoRegs(t, l)
			wantNoSites(t, l)
		}
	}
	for _, src := range []string{"fn f() { nil; } let f;", "fn f(a) { a; } fn f() { nil; }", "fn f() { nil; } fn len() { }", "fn f(a, a) { nil; }"} {
		wantNoRegs(t, parsed(t, src))
	}
}
