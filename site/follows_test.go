package site_test

import (
	"math/rand"
	"testing"

	"casket/api"
	"casket/site"
)

// 14.5 (W9): wherever a site stands, of pairs of one kind without a guard that fails at most WarmUp are generic, and behind them the form is theirs.
func TestWarm(t *testing.T) {
	r := rand.New(rand.NewSource(145))
	looked := [3]int{}
	for range 20000 {
		s, last := site.New(0), 0
		for range r.Intn(30) {
			a := drawn(r, last, 3, 6)
			if a.force {
				s.Force(a.n)
				continue
			}
			s.On(a.n)
			last = a.n
		}
		kind := w + r.Intn(2)
		start := s.Tell()
		if start.Fails >= api.MaxFails || start.Form == other(kind) {
			continue
		}
		looked[start.Form]++
		wantWarm(t, s, kind, 1+r.Intn(20))
	}
	for form, n := range looked {
		if n == 0 {
			t.Errorf("no site was looked at that began in the form %d", form)
		}
	}
}

func wantWarm(t *testing.T, s *site.Site, kind, n int) {
	t.Helper()
	start := s.Tell()
	for i := range n {
		was := s.Tell().Form
		if got := s.On(kind); got != was || i >= api.WarmUp && got != kind {
			t.Fatalf("from %+v, execution %d of %d: %d", start, i, kind, got)
		}
		if i >= api.WarmUp-1 && s.Tell().Form != kind {
			t.Fatalf("from %+v, behind %d of %d: %+v", start, i+1, kind, s.Tell())
		}
	}
	if end := s.Tell(); end.Generic-start.Generic > api.WarmUp || end.Fails != start.Fails {
		t.Fatalf("from %+v, %d of %d: %+v", start, n, kind, end)
	}
}

// 14.5: behind a guard that has failed the same holds, for those that follow, as long as Fails is below MaxFails.
func TestWarmBehindAFail(t *testing.T) {
	for fails := range api.MaxFails - 1 {
		for _, kind := range []int{w, d} {
			s := failed(0, fails)
			wantOK(t, s, other(kind))
			s.On(kind)
			wantWarm(t, s, kind, 10)
		}
	}
}

// 14.5 holds of Fails below MaxFails alone: at MaxFails all of them are generic.
func TestColdAtMaxFails(t *testing.T) {
	s := failed(0, api.MaxFails)
	was := s.Tell().Generic
	feed(s, times(50, w)...)
	wantTell(t, s, api.Site{Generic: was + 50, Fails: api.MaxFails})
}
