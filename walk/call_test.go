package walk_test

import (
	"strings"
	"testing"

	"casket/api"
)

// Promise 15.10: calls and returns.

func TestCalls(t *testing.T) {
	wantEndings(t,
		ending{src: "fn f() { }", ticks: 1},
		ending{src: "fn f() { return; }", ticks: 2},
		ending{src: "fn f() { 5; }", ticks: 2}, // no return, no value
		ending{src: "fn f() { return g(); } fn g() { 5; }", ticks: 4},
		ending{src: "fn f() { return g(); } fn g() { return 5; }", ticks: 4, value: whole(5)},
		ending{src: "fn f() { return g(1, 2, 3); } fn g(a, b, c) { return a * 100 + b * 10 + c; }", ticks: 4, value: whole(123)},
		ending{src: "fn f() { return g(g(9, 2), g(5, 4)); } fn g(a, b) { return a - b; }", ticks: 8, value: whole(6)},
		ending{src: "fn f(n) { if n <= 1 { return 1; } return n * f(n - 1); }", args: raws(whole(20)), ticks: 60, value: whole(2432902008176640000)},
		ending{src: "fn f(n) { if n <= 1 { return 1; } return n @* f(n - 1); }", args: raws(whole(21)), code: api.ErrOverflow, ticks: 63},
		ending{src: "fn f(n) { if n < 2 { return n; } return f(n - 1) + f(n - 2); }", args: raws(whole(10)), ticks: 531, value: whole(55)},
		ending{src: "fn f(n) { if n == 0 { return true; } return odd(n - 1); } fn odd(n) { if n == 0 { return false; } return f(n - 1); }", args: raws(whole(7)), ticks: 24, value: truth(false)},
		ending{src: "let g; fn f() { g = 1; h(); return g; } fn h() { g = g + 1; }", ticks: 6, value: whole(2)},
		ending{src: "fn f() { let f = 1; return g(f); } fn g(g) { if g > 2 { return g; } return g(g + 1); }", ticks: 12, value: whole(3)},
	)
}

// A parameter is its function's own: what is assigned to it is the caller's no more. A thing is one thing.
func TestParametersAreOwn(t *testing.T) {
	wantEndings(t,
		ending{src: "fn f() { let a = 1; g(a); return a; } fn g(a) { a = 2; let b = 3; }", ticks: 7, value: whole(1)},
		ending{src: "fn f() { let r = row(1); g(r); return r[0]; } fn g(a) { a[0] = 2; a = nil; }", ticks: 7, value: whole(2)},
		ending{src: "fn f() { let a = 1; let b = 2; return a + g(b) + b; } fn g(x) { let y = x * 10; x = y; return x + y; }", ticks: 8, value: whole(43)},
		ending{src: "fn f(a, b) { a = 9; b = a; out a; out b; }", args: raws(whole(1), whole(1)), ticks: 5, out: "9 9"},
	)
}

// Returns leave all that is under way in the function, and nothing of the caller.
func TestReturns(t *testing.T) {
	wantEndings(t,
		ending{src: "fn f() { for i in 0..9 { if i == 3 { return i; } } return nil; }", ticks: 11, value: whole(3)},
		ending{src: "fn f() { while true { return 1; } }", ticks: 4, value: whole(1)},
		ending{src: "fn f() { a: while true { for i in 0..9 { b: while true { if true { let x = 5; return x; } } } } }", ticks: 10, value: whole(5)},
		ending{src: "fn f() { if true { if true { return; } } out 1; }", ticks: 4},
		ending{src: "fn f() { if true { return 1; } else { return 2; } return 3; }", ticks: 3, value: whole(1)},
		ending{src: "fn f() { if false { return 1; } else { return 2; } return 3; }", ticks: 3, value: whole(2)},
		ending{src: "fn f() { for i in 0..3 { out g(i); } return \"end\"; } fn g(n) { for j in 0..9 { for k in 0..9 { if j * k > n { return j * 10 + k; } } } }", ticks: 106, value: text("end"), out: "11 12 13"},
		ending{src: "fn f() { let a = 1; if true { let b = g() + g(); out b; } return a; } fn g() { let c = 2; while true { let d = c; return d; } }", ticks: 18, value: whole(1), out: "4"},
		ending{src: "fn f() { return nil; }", ticks: 2},
		ending{src: "fn f() { return @-nil; }", code: api.ErrType, ticks: 2},
	)
}

// MaxDepth functions may be under way, and no more.
func TestDepth(t *testing.T) {
	src := "fn f(n) { if n > 1 { return @f(n - 1) + 1; } return 1; }"
	plain, at := parted(src)
	for _, n := range []int64{1, 2, api.MaxDepth - 1, api.MaxDepth} {
		wantRun(t, plain, raws(whole(n)), plenty, plenty, api.End{Ticks: 3 * n, Value: whole(n)})
	}
	for _, n := range []int64{api.MaxDepth + 1, api.MaxDepth + 2, plenty} {
		wantRun(t, plain, raws(whole(n)), plenty, plenty, api.End{Code: api.ErrDepth, At: at, Ticks: 3 * api.MaxDepth})
	}
	// Fuel that has run out is told at the call's tick: ErrDepth comes ahead of it.
	wantRun(t, plain, raws(whole(plenty)), plenty, 3*api.MaxDepth, api.End{Code: api.ErrDepth, At: at, Ticks: 3 * api.MaxDepth})
	wantRun(t, plain, raws(whole(plenty)), plenty, 3*api.MaxDepth-1, api.End{Code: api.ErrFuel, At: at - len("return "), Ticks: 3*api.MaxDepth - 1})
}

// Built-in functions are none that are under way; arguments are worked out ahead of ErrDepth.
func TestDepthOfBuiltins(t *testing.T) {
	deep := "fn f() { return g(" + "1" + "); } fn g(n) { if n < 63 { return g(n + 1); } return "
	wantEndings(t,
		ending{src: deep + "len(text(n)); }", ticks: 2 + 63*3, value: whole(2)},
		ending{src: deep + "@g(n); }", code: api.ErrDepth, ticks: 2 + 63*3},
		ending{src: deep + "g(n @+ nil); }", code: api.ErrType, ticks: 2 + 63*3},
		ending{src: deep + "g(@g(n)); }", code: api.ErrDepth, ticks: 2 + 63*3},
	)
}

// At MaxDepth each function may return, and another one be called.
func TestDepthAgain(t *testing.T) {
	src := "fn f(n) { if n == 64 { return 0; } let sum = 0; for i in 0..2 { if n > 58 or i == 1 { sum = sum + f(n + 1) + 1; } } return sum; }"
	m := load(t, src, plenty)
	deepest := 0
	start(t, m, "f", api.MaxFuel, whole(1))
	for s := range m.Steps() {
		deepest = max(deepest, s.Depth)
	}
	end, _ := m.End()
	if want := int64(58 + 62); end.Code != api.OK || deepest != api.MaxDepth || end.Value != whole(want) {
		t.Errorf("%v; %d deep", end, deepest)
	}
}

// Each function has as many variables as it may have, all the way down.
func TestManyVariables(t *testing.T) {
	src := "fn f(n) { " + many(api.MaxRegs-5, "let v# = n + #;") + " if n == 64 { return v0; } let w = f(n + 1); return w + v10 - v" + "58; }"
	m := load(t, src, plenty)
	if got := value(t, load(t, strings.ReplaceAll(src, "64", "3"), plenty), "f", whole(1)); got != whole(3-2*48) {
		t.Error(got)
	}
	end, e := m.Run("f", raws(whole(1)), api.MaxFuel)
	if e != api.OK || end.Value != whole(64-63*48) {
		t.Error(end, e)
	}
}
