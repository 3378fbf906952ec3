package check_test

import (
	"slices"
	"strings"
	"testing"

	"casket/api"
	"casket/check"
	"casket/tree"
)

// Promise 13.3: Load.

func TestLoadOfNoTokens(t *testing.T) {
	wantRefused(t, "fn f() { x; $ }", api.Fault{Code: api.ErrByte, At: 12})
	wantRefused(t, "fn f() { x; \"a }", api.Fault{Code: api.ErrString, At: 12})
	wantRefused(t, "fn f() { x; 007; }", api.Fault{Code: api.ErrNumber, At: 12})
	wantRefused(t, "let "+strings.Repeat("a", api.MaxName+1)+";", api.Fault{Code: api.ErrName, At: 4})
	wantRefused(t, strings.Repeat(" ", api.MaxSource+1), api.Fault{Code: api.ErrLong})
	wantTaken(t, strings.Repeat(" ", api.MaxSource))
}

func TestLoadOfNoTree(t *testing.T) {
	wantRefused(t, "fn f() { x; } fn", api.Fault{Code: api.ErrSyntax, At: 16})
	wantRefused(t, "let g; let g; }", api.Fault{Code: api.ErrSyntax, At: 14})
	wantRefused(t, "let a; fn f(a) { let a = 1; { }", api.Fault{Code: api.ErrSyntax, At: 28})
	wantRefused(t, "fn f() { x = "+strings.Repeat("(", api.MaxNest)+"1", api.Fault{Code: api.ErrNest, At: 13 + api.MaxNest - 1})
}

func TestLoadOfWrongTrees(t *testing.T) {
	wantRefused(t, "fn f() { x; }", api.Fault{Code: api.ErrName, At: 9})
	wantRefused(t, "let g; let g;", api.Fault{Code: api.ErrTwice, At: 11})
	wantRefused(t, "fn f() { break; }", api.Fault{Code: api.ErrLoop, At: 9})
}

func TestLoadOfRightTrees(t *testing.T) {
	for _, src := range []string{"", "let g;", "fn f() { }", "# no\nfn f(a) { return a - 1; }"} {
		want, _ := tree.Parse(src)
		got, f := check.Load(src)
		if f != (api.Fault{}) || !slices.Equal(got, want) || len(got) == 0 {
			t.Errorf("Load(%q): %v, %v", src, got, f)
		}
	}
}

// Of a text that is cut off anywhere, what Parse says goes ahead of what Check says.
func TestLoadIsParseThenCheck(t *testing.T) {
	src := "let g; fn f(a) { l: for i in 0..g { if a { a[i] = -1 + f(i); } else { break l; } } } fn g() { x; }"
	for n := range len(src) + 1 {
		want, fault := tree.Parse(src[:n])
		if fault == (api.Fault{}) {
			fault = check.Check(want)
		}
		if fault != (api.Fault{}) {
			want = nil
		}
		if got, f := check.Load(src[:n]); f != fault || !slices.Equal(got, want) {
			t.Errorf("Load(%q): %v, want %v", src[:n], f, fault)
		}
	}
}
