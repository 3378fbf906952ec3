package check_test

import (
	"strings"
	"testing"

	"casket/api"
)

// Promise 13.2: ErrLoop and ErrSpan.

// wantJump puts a break, and then a continue, where ? stands; the fault is there, or none is.
func wantJump(t *testing.T, form string, code api.Errno) {
	t.Helper()
	for _, word := range []string{"break", "continue"} {
		if code == api.OK {
			wantTaken(t, strings.ReplaceAll(form, "?", word))
		} else {
			wantFault(t, strings.Replace(form, "?", mark+word, 1), code)
		}
	}
}

func TestJumpsOutsideOfLoops(t *testing.T) {
	wantJump(t, "fn f() { ?; }", api.ErrLoop)
	wantJump(t, "fn f() { ? l; }", api.ErrLoop)
	wantJump(t, "fn f() { if true { ?; } }", api.ErrLoop)
	wantJump(t, "fn f() { while true { } ?; }", api.ErrLoop)
	wantJump(t, "fn f() { for i in 0..1 { } ?; }", api.ErrLoop)
	wantJump(t, "fn f() { ?; while true { } }", api.ErrLoop)
	wantJump(t, "fn f() { while true { } } fn g() { ?; }", api.ErrLoop)
	wantJump(t, "fn f() { l: while true { } } fn g() { ? l; }", api.ErrLoop)
	wantJump(t, "fn f() { l: while true { } } fn g() { while true { ? l; } }", api.ErrLoop)
	wantJump(t, "let l; fn f(l) { l: for l in 0..1 { } if true { ? l; } }", api.ErrLoop)
}

func TestJumpsWithoutLabel(t *testing.T) {
	wantJump(t, "fn f() { while true { ?; } }", api.OK)
	wantJump(t, "fn f() { for i in 0..1 { ?; } }", api.OK)
	wantJump(t, "fn f() { l: for i in 0..1 { if true { } else if true { ?; } else { ?; } ?; } }", api.OK)
	wantJump(t, "fn f() { while true { while true { } ?; } }", api.OK)
}

func TestJumpsWithLabel(t *testing.T) {
	wantJump(t, "fn f() { l: while true { ? l; } }", api.OK)
	wantJump(t, "fn f() { l: for i in 0..1 { ? l; } }", api.OK)
	wantJump(t, "fn f() { k: while true { l: for i in 0..1 { m: while true { if true { ? k; ? l; ? m; ?; } } ? k; ? l; } ? k; } }", api.OK)
	wantJump(t, "fn f() { k: while true { while true { for i in 0..1 { ? k; } } } }", api.OK)
}

func TestJumpsWithStrangeLabel(t *testing.T) {
	wantJump(t, "fn f() { while true { ? k; } }", api.ErrLoop)
	wantJump(t, "fn f() { for i in 0..1 { ? i; } }", api.ErrLoop)
	wantJump(t, "fn f() { l: while true { ? k; } }", api.ErrLoop)
	wantJump(t, "fn f() { l: for i in 0..1 { ? k; } }", api.ErrLoop)
	wantJump(t, "fn f() { k: while true { } l: while true { ? k; } }", api.ErrLoop)
	wantJump(t, "fn f() { l: while true { ? k; } k: while true { } }", api.ErrLoop)
	wantJump(t, "fn f() { l: while true { k: for i in 0..1 { } ? k; } }", api.ErrLoop)
	wantJump(t, "fn f() { l: while true { ? k; k: for i in 0..1 { } } }", api.ErrLoop)
	wantJump(t, "fn f(k) { let k = 1; while true { ? k; } }", api.ErrLoop)
}

// filled has a loop of so many nodes where ? stands for what fills it: two nodes are an expression that stands alone, one is a return.
func filled(form string, has, wants int) string {
	more := wants - has
	return strings.Replace(form, "?", strings.Repeat("nil; ", more/2)+strings.Repeat("return; ", more%2), 1)
}

func TestSpans(t *testing.T) {
	for _, x := range []struct {
		form string
		has  int
	}{
		{"fn f() { @while true { ? } }", 3},
		{"fn f() { l: @while true { ? } }", 3},
		{"fn f() { @for i in 0..1 { ? } }", 4},
		{"fn f() { l: @for i in 0..1 { ? } }", 5},
		{"fn f() { nil; nil; @while true { ? } nil; }", 3},
		{"fn f() { if true { @while 1 < 2 { ? } } }", 5},
		{"fn f() { @while true { nil; for i in 0..1 { ? } return; } }", 10},
		{"fn g() { @while true { } while true { ? } }", 3},
	} {
		form := x.form
		if strings.HasPrefix(form, "fn g") {
			form = strings.Replace(strings.Replace(form, mark, "", 1), "} while", "} @while", 1)
		}
		plain := strings.Replace(form, mark, "", 1)
		for _, less := range []int{0, 1, 2, 500} {
			wantTaken(t, filled(plain, x.has, api.MaxSpan-less))
		}
		for _, over := range []int{1, 2, 3, 1000} {
			wantFault(t, filled(form, x.has, api.MaxSpan+over), api.ErrSpan)
		}
	}
}

// Only loops have a span: blocks, functions and ifs may be longer.
func TestNoSpans(t *testing.T) {
	wantTaken(t, filled("fn f() { ? }", 0, 5000))
	wantTaken(t, filled("fn f() { if true { ? } else { } }", 0, 5000))
	wantTaken(t, "fn f() { "+strings.Repeat("while true { nil; nil; nil; } ", 500)+"}")
}
