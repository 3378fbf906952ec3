package check_test

import (
	"math"
	"slices"
	"strings"
	"testing"

	"casket/check"
)

// Promise 13.5: Sites.

// wantSites takes a source with a mark ahead of each site.
func wantSites(t *testing.T, marked string) {
	t.Helper()
	var want []int
	src := ""
	for i, piece := range strings.Split(marked, mark) {
		if i > 0 {
			want = append(want, len(src))
		}
		src += piece
	}
	if got := check.Sites(parsed(t, src)); !slices.Equal(got, want) {
		t.Errorf("Sites of %.90q: %v, want %v", marked, got, want)
	}
}

func TestOperatorsWithSites(t *testing.T) {
	for _, op := range strings.Fields("+ - * / // % < <= > >= == !=") {
		wantSites(t, "fn f(a) { a @"+op+" a; }")
		wantSites(t, "fn f(a) { return not (a @"+op+" 1) and 2 @"+op+" a; }")
	}
}

func TestOperatorsWithoutSites(t *testing.T) {
	for _, op := range strings.Fields("& | ^ << >> and or") {
		wantSites(t, "fn f(a) { a "+op+" a; }")
		wantSites(t, "fn f(a) { (a @+ a) "+op+" (a @* a); }")
	}
	wantSites(t, "fn f(a) { -a; ~a; not a; - - 1; }")
	wantSites(t, "let g; fn f(a) { let b = a; g = b; a[b] = a; l: while a { for i in a..b { f(a); break l; } } out g; return a[b]; }")
	wantSites(t, "")
	wantSites(t, "fn f() { \"+\"; \"-\"; \"<\"; }")
}

// In the row an operator stands ahead of its kids; told are places that rise.
func TestSitesRise(t *testing.T) {
	wantSites(t, "fn f(a) { return a @- a @- a @- a; }")
	wantSites(t, "fn f(a) { return a @- (a @- (a @- a)); }")
	wantSites(t, "fn f(a) { return (a @+ 1) @* (a @- 2) & 3 | 4 << 5; }")
	wantSites(t, "fn f(a) { return a @+ a @* a @+ a @< a; }")
	wantSites(t, "fn g(a) { a @+ a; } fn f(a) { for i in a @- 1..a @* 2 { a[i @+ 1] = i @% 2; } if a @== 1 { } while a @!= 2 { let b = f(a @/ 2 @// 3); } }")
}

func TestSitesOfRowsThatDoNotRise(t *testing.T) {
	// The program, f, a, the block, the return, and the operators at 5, 6 and 7.
	l := parsed(t, "fn f(a) { return a - a - a + a; }")
	for i := range l {
		l[i].At = -10 * i
	}
	if got := check.Sites(l); !slices.Equal(got, []int{-70, -60, -50}) {
		t.Errorf("falling: %v", got)
	}
	l[5].At, l[6].At, l[7].At = math.MaxInt, math.MinInt, 0
	if got := check.Sites(l); !slices.Equal(got, []int{math.MinInt, 0, math.MaxInt}) {
		t.Errorf("far apart: %v", got)
	}
}

// Each operator has its site, where two stand at one place, too.
func TestSitesAtOnePlace(t *testing.T) {
	l := parsed(t, "fn f(a) { return a - a - a + a; }")
	for i := range l {
		l[i].At = 7
	}
	if got := check.Sites(l); !slices.Equal(got, []int{7, 7, 7}) {
		t.Errorf("%v", got)
	}
}

func TestSitesOfFaults(t *testing.T) {
	for _, x := range append(pieces, tooMuch...) {
		text := strings.Replace(x.text, mark, "", 1)
		wantNoSites(t, parsed(t, "fn g(a) { a + a; } fn f() { 1 + 2; if true { "+text+"} } fn h() { 3 - 4; }"))
	}
	wantNoSites(t, parsed(t, "fn f() { x + 1; }"))
	wantNoSites(t, parsed(t, "fn f() { 1 + 1; } let f;"))
}
