package check_test

import (
	"strings"
	"testing"

	"casket/api"
	"casket/ops"
)

// Promise 13.2: ErrTwice.

func TestTwiceOutside(t *testing.T) {
	wantFault(t, "let g; let @g;", api.ErrTwice)
	wantFault(t, "fn g() { } fn @g() { }", api.ErrTwice)
	wantFault(t, "let g; fn @g() { }", api.ErrTwice)
	wantFault(t, "fn g() { } let @g;", api.ErrTwice)
	wantFault(t, "let g; let h; fn f() { } let i; let @h; let g;", api.ErrTwice)
	wantFault(t, "fn g(a) { } let h; fn @g(a, b) { }", api.ErrTwice)
	wantTaken(t, "let g; let h; fn f() { } fn i() { }")
}

func TestNamesOfBuiltins(t *testing.T) {
	for _, name := range strings.Fields("int float text num len sub byte chr bits frombits f64 f32 i16 u8 row view load store kind") {
		if _, known := ops.Arity(name); !known {
			t.Fatal(name)
		}
		wantFault(t, "let @"+name+";", api.ErrTwice)
		wantFault(t, "fn @"+name+"() { }", api.ErrTwice)
		wantFault(t, "let g; fn @"+name+"(a) { a; } let g;", api.ErrTwice)
		wantTaken(t, "fn f("+name+") { let "+name+" = "+name+"; "+name+": for "+name+" in 0..1 { break "+name+"; } }")
	}
	wantTaken(t, "let lens; let le; fn rows() { } fn out_() { }")
}

func TestParametersTwice(t *testing.T) {
	wantFault(t, "fn f(a, @a) { }", api.ErrTwice)
	wantFault(t, "fn f(a, b, c, @b, a) { }", api.ErrTwice)
	wantTaken(t, "fn f(a, b) { } fn g(b, a) { }")
	wantTaken(t, "let a; fn f(a, g) { } fn g(f) { }")
}

func TestLetsTwice(t *testing.T) {
	wantFault(t, "fn f() { let a = 1; let @a = 2; }", api.ErrTwice)
	wantFault(t, "fn f() { let a = 1; let b = 1; a = b; if true { } let @a = 2; }", api.ErrTwice)
	wantFault(t, "fn f() { let x = 1; if true { let x = x; let @x = 2; } }", api.ErrTwice)
	wantFault(t, "fn f() { if true { } else { let x = 1; let @x = 2; } }", api.ErrTwice)
	wantFault(t, "fn f() { while true { let x = 1; let @x = 2; } }", api.ErrTwice)
	wantFault(t, "fn f() { for i in 0..1 { let i = 1; let @i = 2; } }", api.ErrTwice)
	wantFault(t, "fn f() { let x = 1; if true { let x = 2; } let @x = 3; }", api.ErrTwice)
	wantFault(t, "fn f() { let x = 1; for x in 0..1 { let x = 2; } let @x = 3; }", api.ErrTwice)
}

// One within another, and one behind another, are two scopes; so are a function's parameters and its block, a for's variable and its block.
func TestLetsInTwoScopes(t *testing.T) {
	wantTaken(t, "fn f(a) { let a = 1; }")
	wantTaken(t, "fn f() { let a = 1; if true { let a = 2; if true { let a = 3; } } }")
	wantTaken(t, "fn f() { if true { let a = 1; } else { let a = 2; } if true { let a = 3; } let a = 4; }")
	wantTaken(t, "fn f() { while true { let a = 1; } while true { let a = 1; } }")
	wantTaken(t, "fn f() { for i in 0..1 { let i = 1; } }")
	wantTaken(t, "fn f() { for i in 0..1 { for i in 0..1 { let i = 1; } let i = 1; } let i = 1; }")
	wantTaken(t, "fn f() { for i in 0..1 { } for i in 0..1 { } }")
	wantTaken(t, "fn f() { let i = 1; for i in 0..1 { } }")
	wantTaken(t, "fn f() { let a = 1; } fn g() { let a = 1; }")
}

func TestLabelsTwice(t *testing.T) {
	wantFault(t, "fn f() { l: while true { l: @while true { } } }", api.ErrTwice)
	wantFault(t, "fn f() { l: for i in 0..1 { @l: for j in 0..1 { } } }", api.ErrTwice)
	wantFault(t, "fn f() { l: while true { @l: for j in 0..1 { } } }", api.ErrTwice)
	wantFault(t, "fn f() { l: for i in 0..1 { l: @while true { } } }", api.ErrTwice)
	wantFault(t, "fn f() { l: while true { while true { if true { k: for i in 0..1 { l: @while true { } } } } } }", api.ErrTwice)
	wantFault(t, "fn f() { while true { l: for i in 0..1 { } l: while true { for i in 0..1 { @l: for k in 0..1 { } } } } }", api.ErrTwice)
}

func TestLabelsOneBehindAnother(t *testing.T) {
	wantTaken(t, "fn f() { l: while true { } l: while true { } l: for i in 0..1 { } l: for i in 0..1 { } }")
	wantTaken(t, "fn f() { k: while true { l: while true { } l: for i in 0..1 { } } l: while true { k: for i in 0..1 { } } }")
	wantTaken(t, "fn f() { l: while true { } } fn g() { l: while true { } }")
	wantTaken(t, "fn f() { while true { while true { for i in 0..1 { for j in 0..1 { } } } } }")
	wantTaken(t, "fn f(l) { l: for l in 0..l { let l = l; } }")
}
