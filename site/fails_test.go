package site_test

import (
	"slices"
	"testing"

	"casket/api"
	"casket/site"
)

// 14.3: a row leads to a form just as long as Fails is below MaxFails.
func TestWarmUpByFails(t *testing.T) {
	for fails := range api.MaxFails + 3 {
		for _, kind := range []int{w, d} {
			s := failed(1, fails)
			was := s.Tell()
			if was.Fails != fails || was.Form != g {
				t.Fatalf("%d guards have failed: %+v", fails, was)
			}
			if got := feed(s, times(api.WarmUp, kind)...); !slices.Equal(got, times(api.WarmUp, g)) {
				t.Errorf("a row behind %d fails: %v", fails, got)
			}
			want := api.Site{At: 1, Generic: was.Generic + api.WarmUp, Fails: fails}
			if fails < api.MaxFails {
				want.Form = kind
			}
			wantTell(t, s, want)
		}
	}
}

// 14.3: at MaxFails a row may go on as long as it likes.
func TestRowGoesOnAtMaxFails(t *testing.T) {
	for _, kind := range []int{w, d} {
		s := failed(1, api.MaxFails)
		was := s.Tell()
		for n := range 1000 {
			if got := s.On(kind); got != g {
				t.Fatalf("execution %d: %d", n, got)
			}
			was.Generic++
			wantTell(t, s, was)
		}
		feed(s, g, kind, other(kind), other(kind), other(kind), other(kind), 77)
		was.Generic += 7
		wantTell(t, s, was)
	}
}

// 14.3: the guard whose failing makes Fails MaxFails, by each pair: the row that it begins leads nowhere.
func TestLastFail(t *testing.T) {
	for _, form := range []int{w, d} {
		for _, pair := range append([]int{other(form)}, alike(g)...) {
			s := failed(2, api.MaxFails-1)
			feed(s, times(api.WarmUp+1, form)...)
			was := s.Tell()
			if was.Form != form || was.Fast != 1 {
				t.Fatalf("one below MaxFails: %+v", was)
			}
			if got := s.On(pair); got != g {
				t.Errorf("On(%d): %d", pair, got)
			}
			wantTell(t, s, api.Site{At: 2, Generic: was.Generic + 1, Fast: 1, Fails: api.MaxFails})
			feed(s, times(9, other(form))...)
			wantTell(t, s, api.Site{At: 2, Generic: was.Generic + 10, Fast: 1, Fails: api.MaxFails})
		}
	}
}

// 14.3, 14.4: behind MaxFails a form can be forced all the same; guards go on failing, and are counted.
func TestForcedBehindMaxFails(t *testing.T) {
	for _, form := range []int{w, d} {
		s := failed(2, api.MaxFails)
		want := s.Tell()
		for range 5 {
			wantOK(t, s, form)
			if got := feed(s, form, form, other(form)); !slices.Equal(got, []int{form, form, g}) {
				t.Errorf("forced to %d: %v", form, got)
			}
			want.Fast, want.Generic, want.Fails = want.Fast+2, want.Generic+1, want.Fails+1
			wantTell(t, s, want)
			feed(s, times(5, other(form))...)
			feed(s, times(5, form)...)
			want.Generic += 10
			wantTell(t, s, want)
		}
	}
}

// 14.3: rows that come to each form in turn: MaxFails times, and never again.
func TestFormsInTurn(t *testing.T) {
	s := site.New(0)
	kind, want := w, api.Site{}
	for range api.MaxFails {
		feed(s, times(api.WarmUp+2, kind)...)
		want.Generic, want.Fast, want.Form = want.Generic+api.WarmUp, want.Fast+2, kind
		wantTell(t, s, want)
		s.On(g)
		want.Generic, want.Fails, want.Form = want.Generic+1, want.Fails+1, g
		wantTell(t, s, want)
		kind = other(kind)
	}
	feed(s, times(20, kind)...)
	want.Generic += 20
	wantTell(t, s, want)
}
