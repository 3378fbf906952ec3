package site_test

import (
	"math"
	"testing"

	"casket/api"
	"casket/site"
)

const (
	g = api.Generic
	w = api.Whole
	d = api.Double
)

// none are numbers that are no pair and no form.
var none = []int{3, 4, 77, -1, -2, math.MaxInt, math.MaxInt - 1, math.MinInt, math.MinInt + 1, 1 << 32, 1<<32 | w, 1<<62 | d}

// other is the kind that a row of kind is cut off by.
func other(kind int) int { return w + d - kind }

func times(n, pair int) []int {
	list := make([]int, n)
	for i := range list {
		list[i] = pair
	}
	return list
}

func feed(s *site.Site, pairs ...int) []int {
	answers := make([]int, len(pairs))
	for i, p := range pairs {
		answers[i] = s.On(p)
	}
	return answers
}

// with is a site behind these executions.
func with(at int, pairs ...int) *site.Site {
	s := site.New(at)
	feed(s, pairs...)
	return s
}

// failed is a site in the generic form without a row, of which so many guards have failed: it was forced ahead of each.
func failed(at, fails int) *site.Site {
	s := site.New(at)
	for range fails {
		s.Force(w)
		s.On(g)
	}
	return s
}

type row struct{ kind, length int }

// rowOf finds out about the row by trying on a copy how many executions are lacking to each form. The site must be generic, and have failed less often than MaxFails.
func rowOf(t *testing.T, s *site.Site) row {
	t.Helper()
	found := row{}
	for _, kind := range []int{w, d} {
		try, n := *s, 0
		for try.Tell().Form == g && n <= api.WarmUp {
			try.On(kind)
			n++
		}
		if n > api.WarmUp || n == 0 {
			t.Errorf("%v: %d executions of %d lead to its form", s.Tell(), n, kind)
		}
		if n < api.WarmUp {
			found = row{kind, api.WarmUp - n}
		}
	}
	return found
}

func wantTell(t *testing.T, s *site.Site, want api.Site) {
	t.Helper()
	if got := s.Tell(); got != want {
		t.Errorf("Tell: %+v, want %+v", got, want)
	}
}

func wantOK(t *testing.T, s *site.Site, form int) {
	t.Helper()
	if e := s.Force(form); e != api.OK {
		t.Errorf("Force(%d): %v", form, e)
	}
}
