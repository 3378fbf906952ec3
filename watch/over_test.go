package watch_test

import (
	"slices"
	"testing"

	"casket/api"
	"casket/watch"
)

// 21.3: Over.

func wantNoOver(t testing.TB, m watch.Machine) {
	t.Helper()
	if s, ok := watch.Over(m); ok || s.Vars != nil || !sameState(s, api.State{}) {
		t.Error("Over:", short(s), ok)
	}
}

// Where State is false nothing is changed: a run that is under way stays where it stands.
func TestOverWithoutState(t *testing.T) {
	for _, kind := range kinds {
		m := open(t, winding, plenty, kind)
		wantNoOver(t, m)
		if _, ended := m.End(); ended {
			t.Error("an End")
		}
		start(t, m, "f", plenty, whole(3))
		for range 3 { // ahead of the first Step
			wantNoOver(t, m)
			if e := m.Start("f", nil, 9); e != api.ErrState {
				t.Error("the run is gone:", e)
			}
		}
		x := traced(t, winding, kind, plenty, whole(3))
		wantStand(t, m, x, 0)
		wantRest(t, m, x, 0)
		for range 3 { // behind the end
			wantNoOver(t, m)
			wantStand(t, m, x, len(x.states)+1)
		}
		start(t, m, "f", 0, whole(3)) // a run that ends without a tick
		wantNoOver(t, m)
		if _, ended := m.End(); ended {
			t.Error("it went on")
		}
	}
}

// Where Over stands, by one call behind the other from the first tick of f on: the places.
func TestOverPlaces(t *testing.T) {
	for _, c := range []struct {
		name, src string
		from      int // ticks made ahead of it
		at        []int
	}{
		{"no call", "fn f() { out 1; out 2; }", 1, []int{9, 16}},
		{"a call", "fn f() { g(); out 1; } fn g() { out 2; out 3; }", 1, []int{9, 14}},
		{"a call at the end", "fn f() { out 1; g(); } fn g() { out 2; }", 1, []int{9, 16}},
		{"calls within calls", "fn f() { g(); out 1; } fn g() { h(); h(); } fn h() { out 2; }", 1, []int{9, 14}},
		{"within a call", "fn f() { g(); out 1; } fn g() { h(); h(); } fn h() { out 2; }", 3, []int{32, 37, 14}},
		{"within a call within it", "fn f() { g(); out 1; } fn g() { h(); h(); } fn h() { out 2; }", 5, []int{53, 37, 14}},
		{"calls in an expression", "fn f() { let a = g(1) + g(2) * g(3); out a; } fn g(n) { return n; }", 1, []int{13, 37}},
		{"within the first of them", "fn f() { let a = g(1) + g(2) * g(3); out a; } fn g(n) { return n; }", 3, []int{56, 49, 56, 49, 56, 37}},
		{"a call in an argument", "fn f() { out g(g(g(1))); out 4; } fn g(n) { return n; }", 1, []int{9, 25}},
		{"within a call in an argument", "fn f() { out g(g(1)); out 4; } fn g(n) { return n; }", 4, []int{34, 41, 22}},
		{"a call in a loop", "fn f() { for i in 0..2 { g(i); } out 3; } fn g(n) { out n; }", 1, []int{9, 9, 25, 9, 25, 9, 33}},
		{"calls in a loop's test", "fn f() { let n = 0; while g(n) { n = n + 1; } } fn g(n) { return n < 2; }", 1, []int{13, 20, 20, 33, 20, 33, 20}},
		{"a call in a condition", "fn f() { if g() { out 1; } else { out 2; } } fn g() { return false; }", 1, []int{9, 34}},
		{"a call in a store", "fn f() { let r = row(1); r[g()] = g(); out r[g()]; } fn g() { return 0; }", 1, []int{13, 26, 39}},
		{"a call in a return", "fn f() { return g(); } fn g() { out 1; return 2; }", 1, []int{9}},
		{"the last statement of what is called", "fn f() { g(); out 1; } fn g() { out 2; }", 4, []int{14}},
		{"the last statements of two", "fn f() { g(); out 1; } fn g() { h(); } fn h() { out 2; }", 6, []int{14}},
		{"another call of the same depth", "fn f() { g(); g(); } fn g() { out 2; }", 4, []int{14}},
		{"two calls with nothing between", "fn f() { out g() + g(); } fn g() { return 2; }", 4, []int{29, 35}},
	} {
		for _, kind := range kinds {
			x := traced(t, c.src, kind, plenty)
			m := begun(t, c.src, kind)
			step(t, m, c.from)
			made := c.from
			for _, at := range c.at {
				to, ok := x.over(made)
				if !ok || x.states[to-1].At != at {
					t.Fatalf("%s: behind %d ticks it comes to %d, %v; want %d", c.name, made, to, ok, at)
				}
				wantOver(t, m, x, to)
				made = to
			}
			wantOver(t, m, x, len(x.states)+1)
			wantNoRun(t, m)
			if t.Failed() {
				t.Fatal(c.name, kind)
			}
		}
	}
}

// From each tick on it stands where going by hand stands, and goes on from there as by hand.
func TestOverFromEachTick(t *testing.T) {
	for _, kind := range kinds {
		for _, fuel := range []int64{plenty, 20, 21, 22, 23, 24} {
			x := traced(t, winding, kind, fuel, whole(3))
			for made := 1; made <= len(x.states); made++ {
				m := open(t, winding, plenty, kind)
				start(t, m, "f", fuel, whole(3))
				step(t, m, made)
				to, ok := x.over(made)
				wantOver(t, m, x, to)
				if ok {
					wantRest(t, m, x, to)
				}
			}
		}
	}
}

// deepening goes so deep, and ticks in each function behind the call, too.
const deepening = "fn f(n) { if n > 1 { out f(n - 1); out n; } return n; }"

// One call behind the other, from the innermost function on: behind each last statement fewer functions are under way, never more.
func TestOverLeavesFunctions(t *testing.T) {
	for _, kind := range kinds {
		x := traced(t, deepening, kind, plenty, whole(5))
		m := begun(t, deepening, kind, whole(5))
		step(t, m, 13) // five calls, each with its if, and an out in all but the last
		var depths []int
		s, ok := m.State()
		for ok {
			depths = append(depths, s.Depth)
			s, ok = watch.Over(m)
		}
		if !slices.Equal(depths, []int{5, 5, 5, 4, 4, 3, 3, 2, 2, 1, 1}) {
			t.Error("depths:", depths)
		}
		wantStand(t, m, x, len(x.states)+1)
	}
}

// A run that ends within what is called: well, with an error, without fuel.
func TestOverEnds(t *testing.T) {
	for _, c := range []struct {
		src  string
		fuel int64
		want api.Errno
	}{
		{"fn f() { return g(); } fn g() { out 1; return 2; }", plenty, api.OK},
		{"fn f() { g(); out 1; } fn g() { out 1; return 2 // 0; }", plenty, api.ErrDivZero},
		{"fn f() { g(); out 1; } fn g() { h(); } fn h() { out row(1); }", plenty, api.ErrType},
		{"fn f() { g(); out 1; } fn g() { while true { } }", 50, api.ErrFuel},
		{"fn f() { g(); out 1; } fn g() { out 1; }", 2, api.ErrFuel},
		{"fn f() { g(); out 1; } fn g() { out 1; }", 3, api.ErrFuel},
		{"fn f() { g(); out 1; } fn g() { g(); }", plenty, api.ErrDepth},
		{"fn f() { out g(row(9)); out 1; } fn g(a) { return g(row(99)); }", plenty, api.ErrMemory},
	} {
		for _, kind := range kinds {
			x := traced(t, c.src, kind, c.fuel)
			m := open(t, c.src, plenty, kind)
			start(t, m, "f", c.fuel)
			step(t, m, 2)
			wantOver(t, m, x, len(x.states)+1)
			if x.end.Code != c.want {
				t.Error(c.src, x.end.Code)
			}
			wantNoRun(t, m)
		}
	}
}

// MaxDepth functions are under way: within the last one, and at the call that is one too many.
func TestOverAtMaxDepth(t *testing.T) {
	src := deepening
	for _, kind := range kinds {
		for _, n := range []int64{api.MaxDepth - 1, api.MaxDepth, api.MaxDepth + 1} {
			x := traced(t, src, kind, plenty, whole(n))
			if wrong := x.end.Code == api.ErrDepth; wrong != (n > api.MaxDepth) {
				t.Fatal(n, x.end.Code)
			}
			deepest := 0
			for made := 1; made <= len(x.states); made++ {
				deepest = max(deepest, x.states[made-1].Depth)
				m := begun(t, src, kind, whole(n))
				step(t, m, made)
				to, _ := x.over(made)
				wantOver(t, m, x, to)
			}
			if deepest != int(min(n, api.MaxDepth)) {
				t.Error(deepest)
			}
		}
	}
}
