package vm_test

import (
	"testing"

	"casket/api"
)

// The chapter's table 'Examples', row by row.
func TestExamples(t *testing.T) {
	m := load(t, "fn f(a, b) { return a + b; }", plenty)
	for range 5 {
		if end := run(t, m, "f", whole(1), whole(2)); !sameEnd(end, api.End{Ticks: 2, Value: whole(3)}) {
			t.Errorf("f(1, 2): %v", end)
		}
	}
	wantSites(t, m, api.Site{At: 22, Form: api.Whole, Generic: 3, Fast: 2})
	wantForce(t, m, 0, api.Double, api.OK)
	if end := run(t, m, "f", whole(1), whole(2)); !sameEnd(end, api.End{Ticks: 2, Value: whole(3)}) {
		t.Errorf("f(1, 2): %v", end)
	}
	wantSites(t, m, api.Site{At: 22, Form: api.Generic, Generic: 4, Fast: 2, Fails: 1})
	with := 0
	for _, in := range codeOf(t, m, "f") {
		if in.Site == 0 {
			with++
			if in.B == in.C || in.B < 0 || in.C < 0 {
				t.Errorf("the registers of a and b: %+v", in)
			}
		}
	}
	if with != 1 {
		t.Errorf("%d instructions with Site 0", with)
	}
	wantForce(t, m, 1, 0, api.ErrSite)
	wantForce(t, m, 0, 3, api.ErrSite)
	if code, e := m.Code("g"); e != api.ErrFunc || len(code) != 0 {
		t.Errorf("Code(g): %v, %d", code, e)
	}
}
