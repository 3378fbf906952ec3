package site_test

import (
	"math"
	"testing"

	"casket/api"
	"casket/site"
)

// State and Of are no calls of chapter 14: a site that is made of another one's state goes on as that one does.

func wantOf(t *testing.T, x site.State) *site.Site {
	t.Helper()
	s, e := site.Of(x)
	if s == nil || e != api.OK {
		t.Fatalf("Of(%+v) is %v", x, e)
	}
	if got := s.State(); got != x {
		t.Errorf("State: %+v, want %+v", got, x)
	}
	wantTell(t, s, x.Told)
	return s
}

func TestStateOfEach(t *testing.T) {
	for i := range starts() {
		for _, pairs := range [][]int{nil, {w}, {d}, {g}, {w, w}, {d, d, d}, {w, d, w, w, w, w}, {d, g, d, d, d, w}} {
			s := starts()[i]
			again := wantOf(t, s.State())
			for _, pair := range pairs {
				if got, want := again.On(pair), s.On(pair); got != want || again.State() != s.State() {
					t.Errorf("On(%d): %d, %+v; want %d, %+v", pair, got, again.State(), want, s.State())
				}
			}
		}
	}
}

func TestStateOfRows(t *testing.T) {
	for _, x := range []struct {
		pairs        []int
		kind, length int
	}{{nil, g, 0}, {[]int{w}, w, 1}, {[]int{w, w}, w, 2}, {[]int{w, w, w}, g, 0}, {[]int{w, d}, d, 1}, {[]int{d, d}, d, 2}, {[]int{d, d, g}, g, 0}} {
		if got := with(8, x.pairs...).State(); got.Kind != x.kind || got.Length != x.length {
			t.Errorf("%v: %+v", x.pairs, got)
		}
	}
	s := failed(8, api.MaxFails)
	feed(s, d, d, d, d, d)
	if got := s.State(); got.Kind != d || got.Length != api.WarmUp {
		t.Errorf("%+v", got)
	}
}

// States to which no executions lead are taken, too, if each of their fields may be.
func TestOfOthers(t *testing.T) {
	for form := range 3 {
		for kind := range 3 {
			for length := -1; length <= api.WarmUp+1; length++ {
				x := site.State{Told: api.Site{At: 4, Form: form, Generic: 1 << 62, Fast: 1 << 62, Fails: 1<<31 - 1}, Kind: kind, Length: length}
				right := kind == g && length == 0 || kind != g && length >= 1 && length <= api.WarmUp
				if site.IsRow(kind, length) != right {
					t.Errorf("IsRow(%d, %d)", kind, length)
				}
				if right {
					wantOf(t, x)
				} else if s, e := site.Of(x); s != nil || e != api.ErrArg {
					t.Errorf("Of(%+v) is %v", x, e)
				}
			}
		}
	}
}

func TestOfNone(t *testing.T) {
	var list []site.State
	for _, n := range none {
		list = append(list, site.State{Told: api.Site{Form: n}}, site.State{Kind: n}, site.State{Kind: n, Length: 1})
	}
	for _, n := range []int64{-1, math.MinInt64} {
		list = append(list, site.State{Told: api.Site{Generic: n}}, site.State{Told: api.Site{Fast: n}}, site.State{Told: api.Site{Fails: int(n)}}, site.State{Kind: w, Length: int(n)})
	}
	for _, x := range list {
		if s, e := site.Of(x); s != nil || e != api.ErrArg {
			t.Errorf("Of(%+v) is %v", x, e)
		}
	}
}
