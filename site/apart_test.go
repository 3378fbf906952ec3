package site_test

import (
	"testing"

	"casket/api"
	"casket/site"
)

// R3: what Tell answered is not changed by what is done behind it, and changing it changes no site.
func TestTellIsApart(t *testing.T) {
	s := with(6, w, w, w, w)
	was := s.Tell()
	kept := was
	feed(s, d, g, w, w)
	wantOK(t, s, d)
	feed(s, d, d)
	if was != kept || was != (api.Site{At: 6, Form: w, Generic: 3, Fast: 1}) {
		t.Errorf("what was told has become %+v", was)
	}
	now := s.Tell()
	changed := s.Tell()
	changed.At, changed.Form, changed.Generic, changed.Fast, changed.Fails = -1, w, 99, 99, 99
	wantTell(t, s, now)
	if got := s.On(d); got != d {
		t.Errorf("On(Double): %d", got)
	}
}

// 14.4: Tell only tells: asked or not, a site goes on as it would.
func TestTellChangesNothing(t *testing.T) {
	asked, quiet := site.New(1), site.New(1)
	for n := range 200 {
		pair := n / 4 % 3
		asked.Tell()
		if a, q := asked.On(pair), quiet.On(pair); a != q {
			t.Fatalf("execution %d: %d, %d where it is not asked", n, a, q)
		}
		asked.Tell()
	}
	wantTell(t, asked, quiet.Tell())
}

// R4: two sites one beside the other, of one place too, go on as each would alone.
func TestTwoSites(t *testing.T) {
	a, b := site.New(1), site.New(1)
	for n := range 100 {
		a.On(w)
		b.On(d)
		if n == 50 {
			wantOK(t, b, w)
		}
	}
	wantTell(t, a, api.Site{At: 1, Form: w, Generic: 3, Fast: 97})
	wantTell(t, b, api.Site{At: 1, Form: d, Generic: 6, Fast: 94, Fails: 1})
	for range api.MaxFails + 1 {
		wantOK(t, a, w)
		a.On(g)
	}
	wantTell(t, site.New(1), api.Site{At: 1})
	feed(b, g, w, w, w)
	wantTell(t, b, api.Site{At: 1, Form: w, Generic: 10, Fast: 94, Fails: 2})
}
