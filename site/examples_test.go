package site_test

import (
	"slices"
	"testing"

	"casket/api"
	"casket/site"
)

// The chapter's table 'Examples', row by row.
func TestExamples(t *testing.T) {
	s := site.New(5)
	if got := feed(s, w, w, w, w); !slices.Equal(got, []int{g, g, g, w}) {
		t.Errorf("On Whole, four times: %v", got)
	}
	wantTell(t, s, api.Site{At: 5, Form: w, Generic: 3, Fast: 1})
	if got := feed(s, d, d, d, d); !slices.Equal(got, []int{g, g, g, d}) {
		t.Errorf("then On Double, four times: %v", got)
	}
	wantTell(t, s, api.Site{At: 5, Form: d, Generic: 6, Fast: 2, Fails: 1})
}
