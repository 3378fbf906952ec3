package check_test

import (
	"slices"
	"testing"

	"casket/api"
	"casket/check"
)

// The chapter's table 'Examples', row by row.

func TestExampleLets(t *testing.T) {
	wantRefused(t, "fn f(a) { let a = a; let a = 1; }", api.Fault{Code: api.ErrTwice, At: 25})
	wantFault(t, "fn f(a) { let a = a; let @a = 1; }", api.ErrTwice)
}

func TestExampleFunctions(t *testing.T) {
	wantRefused(t, "fn f() { g(1); } fn g() { }", api.Fault{Code: api.ErrCount, At: 9})
	wantRefused(t, "fn f() { x = 1; }", api.Fault{Code: api.ErrName, At: 9})
	wantRefused(t, "fn len() { }", api.Fault{Code: api.ErrTwice, At: 3})
}

func TestExampleLabels(t *testing.T) {
	wantRefused(t, "fn f() { l: while true { l: while true { break k; } } }", api.Fault{Code: api.ErrTwice, At: 28})
}

func TestExampleRegsAndSites(t *testing.T) {
	l := parsed(t, "fn f(a, b) { return a + b * f(a, 1); }")
	if got := check.Regs(l, "f"); got != 6 {
		t.Errorf("Regs: %d", got)
	}
	if got := check.Sites(l); !slices.Equal(got, []int{22, 26}) {
		t.Errorf("Sites: %v", got)
	}
}
