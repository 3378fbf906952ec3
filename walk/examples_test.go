package walk_test

import (
	"testing"

	"casket/api"
)

// The chapter's table 'Examples', row by row.

func TestExamples(t *testing.T) {
	plus := "fn f(a) { return a + 1; }"
	wantRun(t, plus, raws(whole(1)), plenty, 9, api.End{Ticks: 2, Value: whole(2)})
	wantRun(t, plus, raws(whole(1)), plenty, 1, api.End{Code: api.ErrFuel, At: 10, Ticks: 1})
	wantRun(t, plus, raws(text("x")), plenty, 9, api.End{Code: api.ErrType, At: 19, Ticks: 2})
	wantRun(t, "fn f() { for i in 0..3 { out i; } }", nil, plenty, 99, api.End{Ticks: 9, Out: []string{"0", "1", "2"}})
	wantRun(t, "fn f() { return f(); }", nil, plenty, 999, api.End{Code: api.ErrDepth, At: 16, Ticks: 128})
}
