package check_test

import (
	"strings"
	"testing"

	"casket/api"
	"casket/ops"
)

// Promise 13.2: ErrCount, and ErrName of calls.

func TestParametersCounted(t *testing.T) {
	for n := range api.MaxParams + 1 {
		wantTaken(t, "fn f("+list(n, "a#")+") { }")
	}
	wantFault(t, "fn f("+list(api.MaxParams, "a#")+", @x) { }", api.ErrCount)
	wantFault(t, "fn f("+list(api.MaxParams, "a#")+", @x, y, z) { }", api.ErrCount)
	wantFault(t, "fn g("+list(api.MaxParams, "a#")+") { } fn f("+list(api.MaxParams, "a#")+", @x) { }", api.ErrCount)
	wantTaken(t, "fn g("+list(api.MaxParams, "a#")+") { } fn f("+list(api.MaxParams, "b#")+") { }")
	wantFault(t, "fn f("+list(api.MaxParams, "a#")+", @a0) { }", api.ErrTwice)
}

// A function is called ahead of where it stands, behind it, and in itself.
func TestCallsCounted(t *testing.T) {
	for have := range api.MaxParams + 1 {
		for give := range api.MaxParams + 2 {
			params, arguments := list(have, "a#"), list(give, "#")
			for _, form := range []string{"fn g() { @f(); } fn f(-) { }", "fn f(-) { } fn g() { @f(); }", "fn f(-) { @f(); }", "let g; fn f(-) { g = 1 + -len(@f()); }"} {
				src := strings.Replace(strings.Replace(form, "f()", "f("+arguments+")", 1), "f(-)", "f("+params+")", 1)
				if have == give {
					wantTaken(t, strings.Replace(src, mark, "", 1))
				} else {
					wantFault(t, src, api.ErrCount)
				}
			}
		}
	}
}

func TestCallsOfBuiltins(t *testing.T) {
	for _, name := range strings.Fields("int float text num len sub byte chr bits frombits f64 f32 i16 u8 row view load store kind") {
		arity, _ := ops.Arity(name)
		for give := range 7 {
			call := name + "(" + list(give, "#") + ")"
			if give == arity {
				wantTaken(t, "fn f() { "+call+"; }")
			} else {
				wantFault(t, "fn f() { @"+call+"; }", api.ErrCount)
			}
		}
	}
}

func TestCallsOfNobody(t *testing.T) {
	wantFault(t, "fn f() { @nope(); }", api.ErrName)
	wantFault(t, "fn f() { @nope(1, 2, 3, 4, 5); }", api.ErrName)
	wantFault(t, "let g; fn f() { @g(); }", api.ErrName)
	wantFault(t, "fn f(g) { @g(); }", api.ErrName)
	wantFault(t, "fn f() { let g = 1; @g(); }", api.ErrName)
	wantFault(t, "fn f() { for g in 0..1 { @g(); } }", api.ErrName)
	wantFault(t, "fn f() { g: while true { @g(); } }", api.ErrName)
	wantFault(t, "fn f() { @lens(1); }", api.ErrName)
	wantFault(t, "fn f() { len(@nope()); }", api.ErrName)
}

// A call is come to ahead of its arguments.
func TestCallAheadOfArguments(t *testing.T) {
	wantFault(t, "fn f() { @f(x); }", api.ErrCount)
	wantFault(t, "fn f() { @g(x); }", api.ErrName)
	wantFault(t, "fn f(a) { f(@x); }", api.ErrName)
	wantFault(t, "fn f(a) { f(@f()); }", api.ErrCount)
	wantFault(t, "fn f(a) { @f(f(), 1); }", api.ErrCount)
}

// A variable hides no function.
func TestCallsBesideVariables(t *testing.T) {
	wantTaken(t, "fn g(a) { } fn f(g) { g(g); }")
	wantFault(t, "fn g(a) { } fn f(g) { @g(g, g); }", api.ErrCount)
	wantTaken(t, "fn f() { let len = \"\"; len = len(len); }")
}

// Where a name is had twice, it is the first one's till the fault is come to.
func TestCallsAheadOfTwice(t *testing.T) {
	wantFault(t, "fn f() { @g(1); } fn g() { } fn g(a) { }", api.ErrCount)
	wantFault(t, "fn f() { g(); } fn g() { } fn @g(a) { }", api.ErrTwice)
	wantFault(t, "fn f() { g(); g = 1; } let g; fn @g() { }", api.ErrTwice)
	wantFault(t, "fn f() { g(); g = 1; } fn g() { } let @g;", api.ErrTwice)
	wantFault(t, "fn f() { len(); } fn @len() { }", api.ErrTwice)
	wantFault(t, "fn f() { len = 1; } let @len;", api.ErrTwice)
}
