package site

import (
	"testing"

	"casket/api"
)

// 14.3: what no call tells of the row, as a site's forms do not hang on it: that it is at most WarmUp long, and that a row that is none has no kind.

func wantRow(t *testing.T, s *Site, want row) {
	t.Helper()
	if s.row != want {
		t.Errorf("%+v has the row %+v, want %+v", s.told, s.row, want)
	}
}

func TestRowIsAtMostWarmUpLong(t *testing.T) {
	for _, kind := range []int{api.Whole, api.Double} {
		s := New(0)
		for range api.MaxFails {
			s.Force(kind)
			s.On(api.Generic)
		}
		for n := range 100 {
			s.On(kind)
			wantRow(t, s, row{kind, min(n+1, api.WarmUp)})
		}
		s.On(api.Whole + api.Double - kind)
		wantRow(t, s, row{api.Whole + api.Double - kind, 1})
		s.On(api.Generic)
		wantRow(t, s, row{})
	}
}

func TestRowOfNoneHasNoKind(t *testing.T) {
	for _, kind := range []int{api.Whole, api.Double} {
		s := New(0)
		wantRow(t, s, row{})
		for _, pair := range []int{api.Generic, -1, 77} {
			s.On(pair)
			wantRow(t, s, row{})
			s.On(kind)
			wantRow(t, s, row{kind, 1})
			s.On(pair)
			wantRow(t, s, row{})
		}
		s.On(kind)
		s.Force(api.Generic)
		wantRow(t, s, row{})
		for range api.WarmUp + 2 {
			s.On(kind)
		}
		wantRow(t, s, row{})
		s.On(api.Generic)
		wantRow(t, s, row{})
	}
}
