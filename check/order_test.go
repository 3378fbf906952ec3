package check_test

import (
	"strings"
	"testing"

	"casket/api"
)

// Promise 13.2: of two faults the first one alone is told: of one node, of two nodes, of a node and its function's end.

// Those with ErrNest stand in TestNestsOfEachKind, those with ErrSpan below.
func TestTwoOfOneNode(t *testing.T) {
	wantFault(t, "fn f("+list(api.MaxParams, "a#")+", @a3) { }", api.ErrTwice)
	wantFault(t, "fn f() { @nope("+list(20, "#")+"); }", api.ErrName)
}

// A loop within a loop is shorter: only a row whose outer loop is refused has an inner one that is too long.
func TestLongLoopsWithinLoops(t *testing.T) {
	wantFault(t, filled("fn f() { l: @while true { l: while true { ? } } }", 6, api.MaxSpan+1), api.ErrSpan)
	wantFault(t, filled("fn f() { l: @while true { l: while true { ? } } }", 6, 3*api.MaxSpan), api.ErrSpan)
	wantFault(t, filled("fn f() { l: @for i in 0..1 { l: for i in 0..1 { ? } } }", 10, 3*api.MaxSpan), api.ErrSpan)
	wantFault(t, filled("fn f() { l: while true { l: @while true { ? } } }", 6, api.MaxSpan), api.ErrTwice)
	wantFault(t, filled("fn f() { l: while true { @l: for i in 0..1 { ? } } }", 8, api.MaxSpan), api.ErrTwice)
}

// pieces have one fault each, at their mark; each stands in a block of its own.
var pieces = []struct {
	text string
	code api.Errno
}{
	{"let a = 1; let @a = 2; ", api.ErrTwice},
	{"l: while true { l: @while true { } } ", api.ErrTwice},
	{"l: while true { @l: for i in 0..1 { } } ", api.ErrTwice},
	{"@len(); ", api.ErrCount},
	{"@f(1, 2); ", api.ErrCount},
	{"@nope; ", api.ErrName},
	{"@nope = 1; ", api.ErrName},
	{"@nope(); ", api.ErrName},
	{"@break; ", api.ErrLoop},
	{"@continue l; ", api.ErrLoop},
	{filled("@while true { ? } ", 3, api.MaxSpan+1), api.ErrSpan},
	{filled("l: @for i in 0..1 { ? } ", 5, api.MaxSpan+1), api.ErrSpan},
	// Above the nots stand the program, the function, its block, the if, the if's block and the statement.
	{strings.Repeat("not ", deepest-5) + "@not true; ", api.ErrNest},
}

// tooMuch are a function's statements that its end does not take.
var tooMuch = []struct {
	text string
	code api.Errno
}{
	{many(api.MaxConsts+1, "#; "), api.ErrConsts},
	{many(api.MaxRegs+1, "let b# = nil; "), api.ErrRegs},
}

func TestEachPiece(t *testing.T) {
	for _, x := range pieces {
		wantFault(t, "fn f() { if true { "+x.text+"} }", x.code)
	}
}

func TestTwoNodes(t *testing.T) {
	for _, x := range pieces {
		for _, y := range pieces {
			first, second := x.text, strings.Replace(y.text, mark, "", 1)
			wantFault(t, "fn f() { if true { "+first+"} if true { "+second+"} }", x.code)
			wantFault(t, "fn f() { if true { "+first+"} } fn g() { if true { "+second+"} }", x.code)
		}
	}
}

// A function's end is behind all that stands in it, and ahead of all that stands behind it.
func TestNodeAndEnd(t *testing.T) {
	for _, x := range pieces {
		for _, y := range tooMuch {
			first, plain := x.text, strings.Replace(x.text, mark, "", 1)
			wantFault(t, "fn f() { if true { "+first+"} "+y.text+"}", x.code)
			wantFault(t, "fn f() { "+y.text+"if true { "+first+"} }", x.code)
			wantFault(t, "fn f() { if true { "+first+"} } fn g() { "+y.text+"}", x.code)
			wantFault(t, "fn @h() { "+y.text+"} fn f() { if true { "+plain+"} }", y.code)
			wantFault(t, "fn @h() { "+y.text+"} let h;", y.code)
			wantFault(t, "fn @h() { "+y.text+"} fn f(a, a) { }", y.code)
		}
	}
}

func TestTwoEnds(t *testing.T) {
	for _, x := range tooMuch {
		for _, y := range tooMuch {
			wantFault(t, "fn @f() { "+x.text+"} fn g() { "+y.text+"}", x.code)
		}
	}
	wantFault(t, "fn @f() { "+tooMuch[0].text+tooMuch[1].text+"}", api.ErrConsts)
	wantFault(t, "fn @f() { "+tooMuch[1].text+tooMuch[0].text+"}", api.ErrConsts)
}

// What a function is named and has, against what stands in it and ahead of it.
func TestHeads(t *testing.T) {
	wantFault(t, "fn @len(a, a) { x; }", api.ErrTwice)
	wantFault(t, "fn f(a, @a) { x; }", api.ErrTwice)
	wantFault(t, "fn f("+list(api.MaxParams, "a#")+", @b, b) { x; }", api.ErrCount)
	wantFault(t, "fn f("+list(api.MaxParams-1, "a#")+", b, @b, c) { x; }", api.ErrTwice)
	wantFault(t, "let g; let @g; fn len() { x; }", api.ErrTwice)
	wantFault(t, "fn f() { @x; } let g; let g;", api.ErrName)
	wantFault(t, "let g; fn @g() { "+tooMuch[0].text+"}", api.ErrTwice)
}

// A node is come to ahead of its kids, and the kids in order.
func TestKidsBehindTheirNode(t *testing.T) {
	wantFault(t, "fn f() { @x = y; }", api.ErrName)
	wantFault(t, "fn f() { @x + y; }", api.ErrName)
	wantFault(t, "fn f() { 1 + @y; }", api.ErrName)
	wantFault(t, "fn f() { @x[y] = z; }", api.ErrName)
	wantFault(t, "fn f() { 1[@y] = z; }", api.ErrName)
	wantFault(t, "fn f() { 1[2] = @z; }", api.ErrName)
	wantFault(t, "fn f() { let a = 1; let @a = x; }", api.ErrTwice)
	wantFault(t, "fn f() { for i in @x..y { z; } }", api.ErrName)
	wantFault(t, "fn f() { l: while true { @l: for i in x..y { z; } } }", api.ErrTwice)
	wantFault(t, "fn f() { if @x { y; } else { z; } }", api.ErrName)
	wantFault(t, "fn f() { return @f(x) + g; }", api.ErrCount)
}
