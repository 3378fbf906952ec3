package walk_test

import (
	"slices"
	"strings"
	"testing"

	"casket/api"
)

// Promise 15.10: statements but loops.

func TestBlocks(t *testing.T) {
	wantEndings(t,
		ending{src: "fn f() { out 1; out 2; out 3; }", ticks: 4, out: "1 2 3"},
		ending{src: "fn f() { out 1; nil@[0] = 1; out 2; }", code: api.ErrType, ticks: 3, out: "1"},
		ending{src: "fn f() { let a = 1; let b = a + 1; a = b + 1; b = a + 1; return b; }", ticks: 6, value: whole(4)},
		ending{src: "fn f() { (1 + 2) * 3; g(); nil; } fn g() { return 5; }", ticks: 6},
		ending{src: "fn f() { 1 @+ nil; }", code: api.ErrType, ticks: 2},
	)
}

func TestAssigned(t *testing.T) {
	wantEndings(t,
		ending{src: "let g; fn f(a) { g = a; a = g + 1; g = a + 1; return g; }", args: raws(whole(1)), ticks: 5, value: whole(3)},
		ending{src: "fn f(a) { a = a @+ nil; }", args: raws(whole(1)), code: api.ErrType, ticks: 2},
		ending{src: "let g; fn f() { let g = 1; g = 2; h(); return g; } fn h() { g = 3; }", ticks: 7, value: whole(2)},
		ending{src: "fn f() { let a = row(1); let b = a; b[0] = 5; b = nil; return a[0]; }", ticks: 6, value: whole(5)},
	)
	m := load(t, "let g; fn f() { g = 5; g = g + nil; }", plenty)
	run(t, m, "f")
	wantGlobal(t, m, "g", whole(5))
}

func TestIf(t *testing.T) {
	src := "fn f(n) { if n == 0 { out 0; } else if n == 1 { out 1; } else if n == 2 { out 2; } else { out 3; } out 4; }"
	for n, want := range []string{"0 4", "1 4", "2 4", "3 4"} {
		wantEndings(t, ending{src: src, args: raws(whole(int64(n))), ticks: int64(4 + min(n, 2)), out: want})
	}
	wantEndings(t,
		ending{src: "fn f() { if true { } }", ticks: 2},
		ending{src: "fn f() { if false { out 1; } out 2; }", ticks: 3, out: "2"},
		ending{src: "fn f() { if true { out 1; } else { out 2; } }", ticks: 3, out: "1"},
		ending{src: "fn f() { if false { } else { } }", ticks: 2},
		ending{src: "fn f() { if false { out 1; } else if false { out 2; } out 3; }", ticks: 4, out: "3"},
		ending{src: "fn f() { if true { if false { out 1; } else { out 2; } } else { out 3; } }", ticks: 4, out: "2"},
		ending{src: "fn f() { if false { } else { if true { out 1; } } }", ticks: 4, out: "1"}, // an if in a block ticks as one behind else does
		ending{src: "fn f() { @if nil { } }", code: api.ErrType, ticks: 2},
		ending{src: "fn f() { @if 0 { } else { out 1; } }", code: api.ErrType, ticks: 2},
		ending{src: "fn f() { if false { } else @if \"true\" { out 1; } else { out 2; } }", code: api.ErrType, ticks: 3},
		ending{src: "fn f() { if 1 @+ nil { } }", code: api.ErrType, ticks: 2},
		ending{src: "fn f() { if true { @if row(1) { } } }", code: api.ErrType, ticks: 3},
	)
}

func TestOut(t *testing.T) {
	wantEndings(t,
		ending{src: "fn f() { out nil; out true; out false; out -5; out 0x1.8p+1; out nan; out \"a\"; out 140737488355328; out \"0123456789\"; }", ticks: 10, out: "nil true false -5 0x1.8p+1 nan a 140737488355328 0123456789"},
		ending{src: "fn f() { out g(); } fn g() { out 1; return 2; }", ticks: 5, out: "1 2"},
		ending{src: "fn f() { out 1; @out row(1); }", code: api.ErrType, ticks: 3, out: "1"},
		ending{src: "fn f() { @out u8(1); }", code: api.ErrType, ticks: 2},
		ending{src: "fn f() { out 1 @+ nil; }", code: api.ErrType, ticks: 2},
	)
	m := load(t, `fn f() { out ""; out "a b\n\x00\xff"; }`, plenty)
	if end := run(t, m, "f"); !slices.Equal(end.Out, []string{"", "a b\n\x00\xff"}) {
		t.Errorf("%q", end.Out)
	}
}

// Lines have MaxOut bytes, with one more for each, and no more.
func TestTooMuchTold(t *testing.T) {
	src, at := parted("fn f(s, n, last) { for i in 0..n { out s; } @out last; return i_(); } fn i_() { return 7; }")
	for _, x := range []struct {
		line  string
		n     int
		spare int // bytes
	}{
		{"0123456789", api.MaxOut / 11, api.MaxOut % 11},
		{"", api.MaxOut - 1, 1}, {"", api.MaxOut - 5, 5}, {"", api.MaxOut, 0},
		{filler(api.MaxOut - 2), 1, 1}, {filler(api.MaxOut - 1), 1, 0}, {filler(api.MaxOut/2 - 1), 2, 0}, {filler(api.MaxOut/2 - 2), 2, 2},
		{"", 0, api.MaxOut},
	} {
		lines := slices.Repeat([]string{x.line}, x.n)
		ticks := int64(2 + 2*x.n + 2)
		args := func(last string) []api.Raw { return raws(text(x.line), whole(int64(x.n)), text(last)) }
		end, e := load(t, src, 1<<15).Run("f", args(filler(x.spare)), api.MaxFuel)
		if e != api.OK || !sameEnd(end, api.End{Code: api.ErrOut, At: at, Ticks: ticks, Out: lines}) {
			t.Errorf("%d lines of %d bytes, one of %d: %d at %d, %d ticks, %d lines", x.n, len(x.line), x.spare, end.Code, end.At, end.Ticks, len(end.Out))
		}
		if x.spare == 0 {
			continue
		}
		full, e := load(t, src, 1<<15).Run("f", args(filler(x.spare-1)), api.MaxFuel)
		if e != api.OK || full.Code != api.OK || full.Value != whole(7) || len(full.Out) != x.n+1 || full.Out[x.n] != filler(x.spare-1) {
			t.Errorf("%d lines of %d bytes, one of %d: %d at %d, %d lines", x.n, len(x.line), x.spare-1, full.Code, full.At, len(full.Out))
		}
	}
}

// What is told is counted anew in each run; what is no line is refused ahead of ErrOut.
func TestToldAnew(t *testing.T) {
	m := load(t, "fn f(s) { out s; out s; } fn g(s) { out s; out row(1); }", 1<<14)
	half := text(filler(api.MaxOut/2 - 1))
	for range 3 {
		if end := run(t, m, "f", half); end.Code != api.OK || len(end.Out) != 2 {
			t.Error(end.Code, len(end.Out))
		}
	}
	if end := run(t, m, "g", text(filler(api.MaxOut-1))); end.Code != api.ErrType || len(end.Out) != 1 {
		t.Error(end.Code, len(end.Out))
	}
	if end := run(t, m, "f", text(filler(api.MaxOut/2))); end.Code != api.ErrOut || len(end.Out) != 1 {
		t.Error(end.Code, len(end.Out))
	}
}

// A line of each length at the edge, told in one go: bytes, not letters.
func TestToldBytes(t *testing.T) {
	m := load(t, "fn f(s) { out s; }", 1<<14)
	for n := api.MaxOut - 2; n <= api.MaxOut+1; n++ {
		s := strings.Repeat("\xe4", n)
		end := run(t, m, "f", text(s))
		if (end.Code == api.OK) != (n < api.MaxOut) || end.Code != api.OK && end.Code != api.ErrOut {
			t.Errorf("%d bytes: %d", n, end.Code)
		}
	}
}
