package check_test

import (
	"testing"

	"casket/api"
)

// Promise 13.1: what is known where.

func TestGlobalsAreKnownInAllFunctions(t *testing.T) {
	wantTaken(t, "let g; fn f() { g = g; }")
	wantTaken(t, "fn f() { g = g; } let g;")
	wantTaken(t, "fn f() { out g; } let g; fn h(a) { g = a; while g { g; } }")
	wantTaken(t, "let g; let h; fn f() { for i in g..h { g[h] = i; } }")
	wantFault(t, "let g; fn f() { @h = g; }", api.ErrName)
}

// A name that is known further out may be had again: by a parameter, a let, a for, a label, and a global's by all of them.
func TestInnerNames(t *testing.T) {
	wantTaken(t, "let a; fn f(a) { a = a; }")
	wantTaken(t, "let a; fn f() { let a = a; a = a; }")
	wantTaken(t, "let a; fn f() { for a in a..a { a = a; } a = 1; }")
	wantTaken(t, "let a; fn f() { a: while a { a = 1; break a; } }")
	wantTaken(t, "let a; fn f() { a: for a in 0..a { continue a; } }")
	wantTaken(t, "fn f(a) { let a = a; if a { let a = a; for a in a..a { let a = a; a: while a { let a = a; } } } }")
	wantTaken(t, "fn f(f) { f = f(f); let f = f; }")
	wantTaken(t, "fn g() { } fn f() { let g = g(); g = g(); for g in g()..g() { g(); g; } }")
	wantTaken(t, "fn f(len) { let row = len(len); for text in row..len { text = text(text); } store: while num(row) { break store; } }")
}

func TestParameters(t *testing.T) {
	wantTaken(t, "fn f(a, b) { return a + b; }")
	wantTaken(t, "fn f(a) { if true { while a { for i in a..a { a = a; } } } else { a; } }")
	wantFault(t, "fn f(a) { } fn g() { @a; }", api.ErrName)
	wantFault(t, "fn f() { @a; } fn g(a) { }", api.ErrName)
	wantFault(t, "fn f(a) { } fn g() { @a = 1; }", api.ErrName)
}

func TestLetInItsOwnValue(t *testing.T) {
	wantFault(t, "fn f() { let x = @x; }", api.ErrName)
	wantFault(t, "fn f() { let x = 1 + (2 * len(@x)); }", api.ErrName)
	wantTaken(t, "let x; fn f() { let x = x; }")
	wantTaken(t, "fn f(x) { let x = x; }")
	wantTaken(t, "fn f() { let x = 1; if true { let x = x + x; } }")
}

func TestLetBehindItself(t *testing.T) {
	wantTaken(t, "fn f() { let x = 1; x; x = x; let y = x; }")
	wantTaken(t, "fn f() { let x = 1; if x { x; while x { x = x; } } else if x { x; } else { x; } for i in x..x { x; } return x; }")
	wantFault(t, "fn f() { @x; let x = 1; }", api.ErrName)
	wantFault(t, "fn f() { @x = 1; let x = 1; }", api.ErrName)
	wantFault(t, "fn f() { if true { @x; } let x = 1; }", api.ErrName)
	wantFault(t, "fn f() { let y = @x; let x = y; }", api.ErrName)
}

func TestLetBehindItsBlock(t *testing.T) {
	wantFault(t, "fn f() { if true { let x = 1; x; } @x; }", api.ErrName)
	wantFault(t, "fn f() { while true { let x = 1; x; } @x = 1; }", api.ErrName)
	wantFault(t, "fn f() { for i in 0..1 { let x = i; } @x; }", api.ErrName)
	wantFault(t, "fn f() { if true { let x = 1; } else { @x; } }", api.ErrName)
	wantFault(t, "fn f() { if true { let x = 1; } else if @x { } }", api.ErrName)
	wantFault(t, "fn f() { if true { } else { let x = 1; } if true { @x; } }", api.ErrName)
	wantFault(t, "fn f() { let x = 1; } fn g() { @x; }", api.ErrName)
	wantFault(t, "fn f() { if true { if true { let x = 1; } @x; } }", api.ErrName)
	wantFault(t, "fn f() { if true { let x = 1; } let y = @x; }", api.ErrName)
	wantFault(t, "fn f() { while true { if true { let x = 1; } } return @x; }", api.ErrName)
}

// What stood in an inner block is gone behind it: the name means what it meant.
func TestOuterNameIsBack(t *testing.T) {
	wantTaken(t, "fn f(x) { if true { let x = 1; } x; }")
	wantTaken(t, "let x; fn f() { for x in 0..1 { let x = 1; } x = x; }")
	wantTaken(t, "fn f() { let x = 1; while x { let x = 2; } x; }")
}

func TestForsVariable(t *testing.T) {
	wantTaken(t, "fn f() { for i in 0..3 { i = i; if i { while i { i; } } } }")
	wantFault(t, "fn f() { for i in @i..3 { } }", api.ErrName)
	wantFault(t, "fn f() { for i in 0..@i { } }", api.ErrName)
	wantFault(t, "fn f() { for i in 0..(1 + @i) { } }", api.ErrName)
	wantFault(t, "fn f() { l: for i in 0..@l { } }", api.ErrName)
	wantTaken(t, "fn f(i) { for i in i..i { i; } }")
	wantTaken(t, "let i; fn f() { for i in i..i { i; } }")
	wantTaken(t, "fn f() { for i in 0..3 { for i in i..i { i; } i; } }")
	wantTaken(t, "fn f() { for i in 0..3 { for j in i..3 { i = j; } } }")
	wantFault(t, "fn f() { for i in 0..3 { i; } @i; }", api.ErrName)
	wantFault(t, "fn f() { for i in 0..3 { } for j in 0..@i { } }", api.ErrName)
	wantFault(t, "fn f() { for i in 0..3 { } if true { @i = 1; } }", api.ErrName)
	wantFault(t, "fn f() { for i in 0..3 { for j in 0..1 { } @j; } }", api.ErrName)
}

// Labels, functions and built-in functions are no variables.
func TestNoVariables(t *testing.T) {
	wantFault(t, "fn f() { l: while true { @l; } }", api.ErrName)
	wantFault(t, "fn f() { l: for i in 0..1 { @l = 1; } }", api.ErrName)
	wantFault(t, "fn f() { @f; }", api.ErrName)
	wantFault(t, "fn f() { @f = 1; }", api.ErrName)
	wantFault(t, "fn f() { @g = 1; } fn g() { }", api.ErrName)
	wantFault(t, "fn f() { @len; }", api.ErrName)
	wantFault(t, "fn f() { @len = 1; }", api.ErrName)
	wantFault(t, "fn f() { @f[0] = 1; }", api.ErrName)
}
