package turns_test

import (
	"testing"

	"casket/api"
)

// The chapter's paragraph 'Examples', number by number; for machines of each kind.

func TestExamples(t *testing.T) {
	for _, first := range kinds {
		for _, second := range kinds {
			x := loaded(t, "fn f() { out 1; }", plenty, first, second)
			start(t, x, 0, "f", 9)
			start(t, x, 1, "f", 9)
			wantGo(t, x, []int{1, 1, 9}, []int{0, 1, 0}, 3)
			wantLeft(t, x, 1)
			wantEnd(t, x, 0, api.End{Ticks: 2, Out: []string{"1"}})
			wantNoEnd(t, x, 1, api.ErrState)
			wantGo(t, x, []int{9}, []int{1}, 1)
			wantEnd(t, x, 1, api.End{Ticks: 2, Out: []string{"1"}})
			wantLeft(t, x)
		}
	}
}
