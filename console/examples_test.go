package console_test

import "testing"

// The chapter's paragraph 'Examples', row by row.

func TestExamples(t *testing.T) {
	wantTold(t,
		script("|fn f(a) { out a; return a * 2; }", "vm 9", "run f 9 21", "sites"),
		script("ok", `> "21"`, "value 42 ticks 3", "site 26 0 1 0 0"))
	wantTold(t,
		script("run f 9", "frob", "|fn", "tree 9"),
		script("line 1: error 102", "line 2: error 110", "line 4: error 70 at 3"))
}
