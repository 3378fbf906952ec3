package walk_test

import (
	"testing"

	"casket/api"
)

// Promise 15.10: loops, break and continue.

func TestWhile(t *testing.T) {
	wantEndings(t,
		ending{src: "fn f() { while false { out 1; } out 2; }", ticks: 4, out: "2"},
		ending{src: "fn f() { let n = 3; while n > 0 { out n; n = n - 1; } return n; }", ticks: 14, value: whole(0), out: "3 2 1"},
		ending{src: "fn f() { let n = 0; while n < 5 { n = n + 1; if n == 3 { continue; } out n; } return n; }", ticks: 25, value: whole(5), out: "1 2 4 5"},
		ending{src: "fn f() { let n = 0; while true { n = n + 1; if n == 3 { break; } } return n; }", ticks: 14, value: whole(3)},
		ending{src: "fn f() { @while 1 { } }", code: api.ErrType, ticks: 3},
		ending{src: "fn f() { @while nil { } }", code: api.ErrType, ticks: 3},
		ending{src: "fn f() { let a = true; @while a { out 1; a = nil; } }", code: api.ErrType, ticks: 7, out: "1"},
		ending{src: "fn f() { while 1 @+ nil { } }", code: api.ErrType, ticks: 3},
		ending{src: "fn f() { let n = 0; while n < 2 { let n_ = n; n = n_ + 1; let m = n; } return n; }", ticks: 13, value: whole(2)},
	)
}

func TestFor(t *testing.T) {
	wantEndings(t,
		ending{src: "fn f() { for i in 0..3 { out i; } }", ticks: 9, out: "0 1 2"},
		ending{src: "fn f() { for i in -2..2 { out i; } }", ticks: 11, out: "-2 -1 0 1"},
		ending{src: "fn f() { for i in 5..3 { out i; } return 7; }", ticks: 4, value: whole(7)},
		ending{src: "fn f() { for i in 3..3 { out i; } }", ticks: 3},
		ending{src: "fn f() { for i in 3..4 { out i; } }", ticks: 5, out: "3"},
		ending{src: "fn f() { for i in 140737488355325..140737488355327 { out i; } }", ticks: 7, out: "140737488355325 140737488355326"},
		ending{src: "fn f() { for i in -140737488355328..-140737488355327 { out i; } }", ticks: 5, out: "-140737488355328"},
		ending{src: "fn f() { for i in 140737488355327..-140737488355328 { out i; } }", ticks: 3},
		ending{src: "fn f() { for i in 0..2 { i = i + 10; out i; } }", ticks: 9, out: "10 11"},
		ending{src: "fn f() { for i in 0..2 { i = nil; out i; } }", ticks: 9, out: "nil nil"},
		ending{src: "fn f() { let n = 2; for i in 0..n { n = 9; out i; } }", ticks: 10, out: "0 1"}, // to is worked out once
		ending{src: "fn f() { let i = 5; for i in 0..i - 3 { out i; } return i; }", ticks: 9, value: whole(5), out: "0 1"},
		ending{src: "fn f() { for i in 0..4 { if i == 1 { continue; } if i == 3 { break; } out i; } }", ticks: 2 + 4 + 7 + 1 + 1 + 2, out: "0 2"},
		ending{src: "fn f() { for i in 0..2 { let a = i; let b = a; out b; } }", ticks: 2 + 3 + 6, out: "0 1"},
	)
}

// From and to are whole numbers, and small: ErrType of either ahead of ErrRange.
func TestForBounds(t *testing.T) {
	for _, x := range []struct {
		from, to string
		code     api.Errno
	}{
		{"0", "0x1p+0", api.ErrType}, {"0x0p+0", "1", api.ErrType}, {"nil", "1", api.ErrType}, {"0", "nil", api.ErrType},
		{"true", "false", api.ErrType}, {`"0"`, "1", api.ErrType}, {"0", "row(1)", api.ErrType}, {"nan", "nil", api.ErrType},
		{"0", "140737488355328", api.ErrRange}, {"140737488355328", "0", api.ErrRange}, {"-140737488355329", "0", api.ErrRange}, {"0", "-140737488355329", api.ErrRange},
		{"9223372036854775807", "9223372036854775807", api.ErrRange}, {"-9223372036854775807", "0", api.ErrRange},
		{"140737488355328", "nil", api.ErrType}, {"nil", "140737488355328", api.ErrType}, {"140737488355328", "140737488355328", api.ErrRange},
	} {
		wantEndings(t,
			ending{src: "fn f() { @for i in " + x.from + ".." + x.to + " { out i; } }", code: x.code, ticks: 2},
			ending{src: "fn f() { l: @for i in " + x.from + ".." + x.to + " { out i; } }", code: x.code, ticks: 2},
		)
	}
	wantEndings(t,
		ending{src: "fn f() { for i in 1 @+ nil..nil { } }", code: api.ErrType, ticks: 2},
		ending{src: "fn f() { for i in nil..1 @// 0 { } }", code: api.ErrDivZero, ticks: 2}, // both are worked out first
	)
}

func TestJumps(t *testing.T) {
	wantEndings(t,
		ending{src: "fn f() { while true { while true { break; } break; } out 1; }", ticks: 8, out: "1"},
		ending{src: "fn f() { a: while true { while true { break a; } out 0; } out 1; }", ticks: 7, out: "1"},
		ending{src: "fn f() { a: for i in 0..3 { for j in 0..3 { if j == 1 { continue a; } if i == 2 { break a; } out i * 10 + j; } } }", ticks: 26, out: "0 10"},
		ending{src: "fn f() { a: for i in 0..2 { b: for j in 0..2 { c: for k in 0..2 { if k == 1 { continue b; } out i * 100 + j * 10 + k; } } } }", ticks: 2 + 3 + 2*(1+3+2*7), out: "0 10 100 110"},
		ending{src: "fn f() { let n = 0; a: while n < 3 { n = n + 1; for i in 0..9 { while true { if i == 2 { continue a; } break; } out n * 10 + i; } } }", ticks: 3 + 4 + 3*(2+6+6+5), out: "10 11 20 21 30 31"},
		ending{src: "fn f() { a: for i in 0..2 { while true { break; } out i; } }", ticks: 2 + 3 + 2*4, out: "0 1"},
		ending{src: "fn f() { a: for i in 0..2 { b: while true { break b; } out i; } }", ticks: 2 + 3 + 2*4, out: "0 1"},
		ending{src: "fn f() { a: for i in 0..2 { b: for j in 0..2 { continue; } out i; } }", ticks: 2 + 3 + 2*(1+3+2+1), out: "0 1"},
		ending{src: "fn f() { for i in 0..9 { if i > 1 { if true { break; } } else { if true { continue; } } out i; } }", ticks: 2 + 3 + 3*3},
		ending{src: "fn f() { a: while true { break a; } a: for i in 0..1 { continue a; } }", ticks: 1 + 3 + 1 + 2 + 1},
		ending{src: "fn f(i) { i: while i > 0 { i = i - 1; continue i; } return i; }", args: raws(whole(2)), ticks: 1 + 1 + 3 + 4 + 1, value: whole(0)},
	)
}

// Loops within calls within loops: each function has its own, labels of one name, too.
func TestJumpsInCalls(t *testing.T) {
	wantEndings(t,
		ending{src: "fn f() { a: for i in 0..2 { g(i); out i; } } fn g(n) { a: while true { for j in 0..5 { if j > n { break a; } } } }", ticks: 2 + 3 + 4 + 9 + 11, out: "0 1"},
		ending{src: "fn f() { for i in 0..3 { if g(i) { continue; } out i; } } fn g(n) { while true { if n == 1 { return true; } break; } return false; }", ticks: 2 + 4 + 6 + 6 + 5 + 6, out: "0 2"},
		ending{src: "fn f() { let n = 0; while g(n) { n = n + 1; if n == 2 { break; } } return n; } fn g(n) { for i in 0..9 { if i == n { return true; } } return false; }", ticks: 23, value: whole(2)},
		ending{src: "fn f() { for i in g(0)..g(3) { out i; } } fn g(n) { for j in 0..9 { if j == n { return j; } } }", ticks: 25, out: "0 1 2"},
	)
}

// Variables that a loop leaves behind are gone, whichever way it is left.
func TestVariablesBehindJumps(t *testing.T) {
	src := "fn f() { let a = 1; l: for i in 0..3 { let b = 2; while true { let c = 3; if i == 0 { let d = 4; continue l; } if i == 1 { let d = 4; break; } let e = 5; break l; } let h = 6; } let z = 7; nil; }"
	m := load(t, src, plenty)
	start(t, m, "f", plenty)
	var last api.State
	depths := map[int][]int{}
	for s := range m.Steps() {
		last = s
		depths[s.At] = append(depths[s.At], len(s.Vars))
	}
	if len(last.Vars) != 2 || last.Vars[1] != whole(7) {
		t.Errorf("%v", last)
	}
	at := func(part string) int { return indexOf(t, src, part) }
	for part, want := range map[string]int{"for": 1, "while": 3, "b =": 2, "c =": 3, "if i == 0": 4, "if i == 1": 4, "continue": 5, "break;": 5, "e =": 4, "break l": 5, "h =": 3, "z =": 1} {
		if len(depths[at(part)]) == 0 {
			t.Errorf("nothing at %s", part)
		}
		for _, n := range depths[at(part)] {
			if n != want {
				t.Errorf("%d variables at %s; want %d", n, part, want)
			}
		}
	}
}
