package site_test

import (
	"testing"

	"casket/api"
	"casket/site"
)

// starts are sites in each form, with each row, and with counts of all sorts.
func starts() []*site.Site {
	var list []*site.Site
	for fails := range api.MaxFails + 2 {
		for _, pairs := range [][]int{nil, {w}, {w, w}, {d}, {d, d}, {w, w, w}, {d, d, d}, {w, w, w, w}, {d, d, d, d, d}, {w, w, w, g}, {w, w, w, d, d}} {
			s := failed(4, fails)
			feed(s, pairs...)
			list = append(list, s)
		}
		for _, form := range []int{w, d} {
			s := failed(4, fails)
			s.Force(form)
			list = append(list, s)
		}
	}
	return list
}

// 14.4: each form in each form: the form is that, the row none, the counts stay.
func TestForce(t *testing.T) {
	for i := range starts() {
		for _, form := range []int{g, w, d} {
			s := starts()[i]
			want := s.Tell()
			wantOK(t, s, form)
			want.Form = form
			wantTell(t, s, want)
			wantOK(t, s, form)
			wantTell(t, s, want)
			if form == g && want.Fails < api.MaxFails {
				wantRow(t, s, row{})
			}
			if form != g {
				wantForced(t, s, form)
			}
		}
	}
}

// wantForced looks whether a forced form is one like another: fast for its pair, and left by the next.
func wantForced(t *testing.T, s *site.Site, form int) {
	t.Helper()
	want := s.Tell()
	if got := s.On(form); got != form {
		t.Errorf("On(%d) behind Force: %d", form, got)
	}
	want.Fast++
	wantTell(t, s, want)
	if got := s.On(other(form)); got != g {
		t.Errorf("On(%d) behind Force(%d): %d", other(form), form, got)
	}
	want.Form, want.Generic, want.Fails = g, want.Generic+1, want.Fails+1
	wantTell(t, s, want)
	if want.Fails < api.MaxFails {
		wantRow(t, s, row{other(form), 1})
	}
}

func wantRow(t *testing.T, s *site.Site, want row) {
	t.Helper()
	if r := rowOf(t, s); r != want {
		t.Errorf("%+v has the row %v, want %v", s.Tell(), r, want)
	}
}

// 14.4: numbers that are no form: ErrArg, and nothing changes, the row neither.
func TestForceOfNone(t *testing.T) {
	for _, form := range none {
		for _, s := range starts() {
			was := *s
			if e := s.Force(form); e != api.ErrArg {
				t.Errorf("Force(%d): %v", form, e)
			}
			wantTell(t, s, was.Tell())
			if told := was.Tell(); told.Form == g && told.Fails < api.MaxFails {
				wantRow(t, s, rowOf(t, &was))
			}
		}
	}
}

// 14.4: Force is no execution: however often, no count moves, and no row grows.
func TestForceCountsNothing(t *testing.T) {
	s := with(8, w, w)
	for n := range 100 {
		wantOK(t, s, n%3)
		s.Force(n + 3)
		wantTell(t, s, api.Site{At: 8, Form: n % 3, Generic: 2})
	}
}
