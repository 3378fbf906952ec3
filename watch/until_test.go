package watch_test

import (
	"slices"
	"testing"

	"casket/api"
	"casket/watch"
)

// 21.2: Until.

// winding has loops, calls and calls within calls; its places are, from the front: g, its if, its return of a call, its return, f, its let, its for, the out, and the return.
const winding = "fn g(n) { if n > 0 { return g(n - 1); } return n; } fn f(a) { let s = 0; for i in 0..a { out g(i); } return g(a) + s; }"

var windingPlaces = []int{3, 10, 21, 40, 55, 66, 73, 89, 101}

// The places are those, and the run is long enough to tell something.
func TestWindingPlaces(t *testing.T) {
	for _, kind := range kinds {
		x := traced(t, winding, kind, plenty, whole(3))
		var places []int
		for _, c := range x.counts() {
			places = append(places, c.At)
		}
		if !slices.Equal(places, windingPlaces) || len(x.states) < 30 {
			t.Error(places, len(x.states))
		}
	}
}

// No run has been, or it has ended: Step is false, and nothing is changed.
func TestUntilWithoutRun(t *testing.T) {
	for _, kind := range kinds {
		m := open(t, example, plenty, kind)
		for _, at := range [][]int{nil, {}, {3}, {3, 9, 25}, {0}, {-1}} {
			if s, ok := watch.Until(m, at); ok || s.Vars != nil || !sameState(s, api.State{}) {
				t.Error("no run:", short(s), ok)
			}
			if _, ended := m.End(); ended {
				t.Error("an End")
			}
		}
		start(t, m, "f", plenty)
		x := byHand(t, m)
		for _, at := range [][]int{nil, {}, {3}, {3, 9, 25}, {0}, {-1}} {
			wantUntil(t, m, at, x, len(x.states)+1)
		}
	}
}

func TestUntilPlaces(t *testing.T) {
	const most = 1<<63 - 1
	x := traced(t, example, tree, plenty)
	end := len(x.states) + 1
	for _, kind := range kinds {
		for _, c := range []struct {
			name string
			at   []int
			made []int // by one call behind the other
		}{
			{"none", nil, []int{end, end}},
			{"an empty list", []int{}, []int{end, end}},
			{"where nothing ticks", []int{0, 1, 2, 4, 8, 10, 24, 26, 34, 35, 99}, []int{end, end}},
			{"below 0", []int{-1, -3, -9, -25, -most - 1}, []int{end, end}},
			{"the greatest", []int{most}, []int{end, end}},
			{"the function", []int{3}, []int{1, end, end}},
			{"the for", []int{9}, []int{2, 3, 5, 7, 9, end, end}},
			{"out", []int{25}, []int{4, 6, 8, end, end}},
			{"one twice", []int{25, 25}, []int{4, 6, 8, end, end}},
			{"among others", []int{-25, 0, 25, 77}, []int{4, 6, 8, end}},
			{"rising", []int{3, 25}, []int{1, 4, 6, 8, end}},
			{"falling", []int{25, 3}, []int{1, 4, 6, 8, end}},
			{"all", []int{9, 25, 3, 9}, []int{1, 2, 3, 4, 5, 6, 7, 8, 9, end}},
		} {
			m := begun(t, example, kind)
			handed := slices.Clone(c.at)
			for _, made := range c.made {
				wantUntil(t, m, handed, x, made)
				if !slices.Equal(handed, c.at) {
					t.Fatal("the list is now", handed)
				}
			}
			wantNoRun(t, m)
		}
	}
}

// From each tick on, ahead of the first one too, with each choice of places: it stands where going by hand stands, and goes on from there as by hand.
func TestUntilFromEachTick(t *testing.T) {
	for _, kind := range kinds {
		x := traced(t, winding, kind, plenty, whole(2))
		for made := range len(x.states) + 1 {
			for choice := range 1 << len(windingPlaces) {
				if made%3 != choice%3 { // one in three is enough
					continue
				}
				at := []int{-5}
				for i, place := range windingPlaces {
					if choice>>i&1 == 1 {
						at = append([]int{place}, at...)
					}
				}
				m := begun(t, winding, kind, whole(2))
				step(t, m, made)
				to, ok := x.until(made, at)
				wantUntil(t, m, at, x, to)
				if ok {
					wantRest(t, m, x, to)
				}
			}
		}
	}
}

// The place at which the run stands is left first: at least one Step is made.
func TestUntilHere(t *testing.T) {
	src := "fn f() { out 1; while true { out 2; } }"
	for _, kind := range kinds {
		m := begun(t, src, kind)
		step(t, m, 2)
		if s, _ := m.State(); s.At != 9 {
			t.Fatal(s.At)
		}
		twin := open(t, src, plenty, kind)
		start(t, twin, "f", 50)
		step(t, twin, 2)
		if s, ok := watch.Until(twin, []int{9}); ok { // it never comes back
			t.Error(short(s))
		}
		for ticks := int64(3); ticks < 20; ticks++ {
			if s, ok := watch.Until(m, []int{16, 29}); !ok || s.Ticks != ticks {
				t.Error(short(s), ok)
			}
		}
	}
}

// A run that ends ahead of the place: well, with an error, without fuel.
func TestUntilEnds(t *testing.T) {
	for _, c := range []struct {
		src  string
		fuel int64
		want api.Errno
	}{
		{"fn f() { out 1; if false { out 2; } }", plenty, api.OK},
		{"fn f() { out 1; out 1 // 0; out 2; }", plenty, api.ErrDivZero},
		{"fn f() { out 1; f(); }", plenty, api.ErrDepth},
		{"fn f() { while true { } out 2; }", 77, api.ErrFuel},
		{"fn f() { out 2; }", 0, api.ErrFuel},
	} {
		for _, kind := range kinds {
			x := traced(t, c.src, kind, c.fuel)
			m := open(t, c.src, plenty, kind)
			start(t, m, "f", c.fuel)
			wantUntil(t, m, []int{28, 27, 24, 34}, x, len(x.states)+1)
			if x.end.Code != c.want {
				t.Error(c.src, x.end.Code)
			}
			wantNoRun(t, m)
		}
	}
}

// The last tick of all is come to; behind it the run ends.
func TestUntilLastTick(t *testing.T) {
	for _, src := range []string{"fn f() { out 1; return 2; }", "fn f() { out 1; return 1 // 0; }", "fn f() { out 1; out g(); } fn g() { }"} {
		for _, kind := range kinds {
			x := traced(t, src, kind, plenty)
			last := len(x.states)
			m := begun(t, src, kind)
			wantUntil(t, m, []int{x.states[last-1].At}, x, last)
			wantUntil(t, m, []int{x.states[last-1].At}, x, last+1)
			for fuel := 1; fuel < last; fuel++ { // the last one that there is fuel for
				m := open(t, src, plenty, kind)
				start(t, m, "f", int64(fuel))
				if s, ok := watch.Until(m, []int{x.states[fuel-1].At}); !ok || !sameState(s, x.states[fuel-1]) {
					t.Error(short(s), ok)
				}
				if s, ok := watch.Until(m, windingPlaces); ok {
					t.Error(short(s))
				}
			}
		}
	}
}
