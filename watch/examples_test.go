package watch_test

import (
	"testing"

	"casket/api"
	"casket/watch"
)

// The chapter's paragraph 'Examples'; of machines of each kind.

const example = "fn f() { for i in 0..3 { out i; } }"

func TestExamples(t *testing.T) {
	for _, kind := range kinds {
		m := open(t, example, plenty, kind)
		wantProfile(t, m, "f", nil, plenty, []api.Count{{At: 3, N: 1}, {At: 9, N: 5}, {At: 25, N: 3}}, api.End{Ticks: 9, Out: []string{"0", "1", "2"}})
		start(t, m, "f", plenty)
		if s, ok := watch.Until(m, []int{25}); !ok || !sameState(s, api.State{Ticks: 4, Depth: 1, At: 25, Vars: raws(whole(0))}) {
			t.Error("Until:", short(s), ok)
		}
	}
}
