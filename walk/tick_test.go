package walk_test

import (
	"fmt"
	"strings"
	"testing"

	"casket/api"
)

// Promise 15.9.

// track is where a run ticks: what stands there in the source, up to the next blank, bracket or mark; with the depth, if that is above 1.
func track(t *testing.T, src string, args ...api.Raw) string {
	t.Helper()
	m := load(t, src, plenty)
	start(t, m, "f", plenty, args...)
	var list []string
	for s := range m.Steps() {
		word := src[s.At:]
		word = word[:1+strings.IndexAny(word[1:], " (;{[.]")]
		if s.Depth > 1 {
			word += fmt.Sprint(s.Depth)
		}
		list = append(list, word)
	}
	return strings.Join(list, " ")
}

func TestTicks(t *testing.T) {
	for _, x := range []struct {
		src  string
		want string
	}{
		{"fn f() { }", "f"},
		{"fn f() { nil; x_(); let a = 1; a = 2; row(1)[0] = 3; out a; return a; } fn x_() { }", "f nil x_ x_2 a a [0 out return"},
		{"fn f() { return; nil; }", "f return"},
		{"fn f() { if true { nil; } }", "f if nil"},
		{"fn f() { if false { nil; } true; }", "f if true"},
		{"fn f() { if false { nil; } else { true; } }", "f if true"},
		{"fn f() { if false { } else if false { } else if true { nil; } else { 1; } }", "f if if if nil"},
		{"fn f() { while false { nil; } }", "f while while"},
		{"fn f() { let n = 0; while n < 2 { n = n + 1; } }", "f n while while n while n while"},
		{"fn f() { l: while true { break l; } }", "f while while break"},
		{"fn f() { while true { break; } nil; }", "f while while break nil"},
		{"fn f() { for i in 0..0 { nil; } }", "f for for"},
		{"fn f() { for i in 0..2 { nil; } }", "f for for nil for nil for"},
		{"fn f() { l: for i in 0..2 { continue l; } }", "f for for continue for continue for"},
		{"fn f() { for i in 0..1 { for j in 0..1 { nil; } } }", "f for for for for nil for for"},
		{"fn f() { return g(g(1)); } fn g(a) { return a; }", "f return g2 return2 g2 return2"},
		{"fn f() { return g(h()) + g(2); } fn g(a) { } fn h() { return 5; }", "f return h2 return2 g2 g2"},
		{"fn f() { g(); } fn g() { h(); } fn h() { nil; }", "f g g2 h2 h3 nil3"},
		{"fn f() { for i in g(0)..g(1) { } } fn g(a) { return a; }", "f for g2 return2 g2 return2 for for"},
		{"fn f() { while g() { } } fn g() { return false; }", "f while while g2 return2"},
		{"fn f() { return true or g(); } fn g() { }", "f return"},
		{"fn f() { return len(\"a\") + 1; }", "f return"},
	} {
		if got := track(t, x.src); got != x.want {
			t.Errorf("%s: %s; want %s", x.src, got, x.want)
		}
		wantRun(t, x.src, nil, plenty, plenty, run(t, load(t, x.src, plenty), "f"))
	}
}

// A function is under way when its tick is made, with its parameters; not while its arguments are worked out.
func TestTickOfCall(t *testing.T) {
	src := "fn f(a) { let b = 1; g(b, h(7), \"x\"); } fn g(x, y, z) { let w = 1; } fn h(q) { return q; }"
	m := load(t, src, plenty)
	at := func(part string) int { return strings.Index(src, part) }
	start(t, m, "f", plenty, whole(5))
	want := []api.State{
		{Ticks: 1, Depth: 1, At: at("f(a)"), Vars: raws(whole(5))},
		{Ticks: 2, Depth: 1, At: at("b ="), Vars: raws(whole(5))},
		{Ticks: 3, Depth: 1, At: at("g(b"), Vars: raws(whole(5), whole(1))},
		{Ticks: 4, Depth: 2, At: at("h(q"), Vars: raws(whole(7))},
		{Ticks: 5, Depth: 2, At: at("return q"), Vars: raws(whole(7))},
		{Ticks: 6, Depth: 2, At: at("g(x"), Vars: raws(whole(1), whole(7), text("x"))},
		{Ticks: 7, Depth: 2, At: at("w ="), Vars: raws(whole(1), whole(7), text("x"))},
	}
	for _, w := range want {
		if !m.Step() {
			t.Fatal("no step to ", w)
		}
		wantState(t, m, w)
	}
	if m.Step() {
		t.Error("a step too many")
	}
}

// Fuel runs out at each tick of a run in turn: the place is that of the tick that was not made.
func TestNoFuelAtEachTick(t *testing.T) {
	src := "let g; fn f(a) { let b = 2; for i in 0..b { g = h(b, i); if i == 1 { out i; } else { continue; } } while b > 1 { b = b - 1; } return b; } fn h(x, y) { return x + y; }"
	m := load(t, src, plenty)
	start(t, m, "f", plenty, null)
	var places []int
	for s := range m.Steps() {
		places = append(places, s.At)
	}
	for fuel, at := range places {
		end, e := m.Run("f", raws(null), int64(fuel))
		if e != api.OK || end.Code != api.ErrFuel || end.At != at || end.Ticks != int64(fuel) || end.Value != null {
			t.Errorf("fuel %d: %v, %d; want it to end at %d", fuel, end, e, at)
		}
	}
	end, _ := m.Run("f", raws(null), int64(len(places)))
	if end.Code != api.OK || end.Ticks != int64(len(places)) {
		t.Errorf("just enough: %v", end)
	}
}

// What stands ahead of the tick that is not made is done; what is behind it is not. An error of the work ahead of it comes first.
func TestNoFuelBehindWork(t *testing.T) {
	src := "let g; fn f() { g = row(1); store(g, 0, 5) == h(g[0] // g[0]); g = 7; } fn h(a) { g = 6; }"
	for fuel, want := range []api.Raw{null, null, thing(api.Row, 0, 1), thing(api.Row, 0, 1), thing(api.Row, 0, 1), whole(6), whole(7)} {
		m := load(t, src, plenty)
		if end, _ := m.Run("f", nil, int64(fuel)); end.Code != api.ErrFuel && fuel < 6 {
			t.Errorf("fuel %d: %v", fuel, end)
		}
		wantGlobal(t, m, "g", want)
		if fuel == 3 {
			wantPeek(t, m, 0, 0, whole(5)) // the first operand, and the argument, have been worked out
		}
	}
	wantRun(t, "fn f() { return g(1 // 0); } fn g(a) { }", nil, plenty, 2, api.End{Code: api.ErrDivZero, At: 20, Ticks: 2})
	wantRun(t, "fn f() { return g(1 // 1); } fn g(a) { }", nil, plenty, 2, api.End{Code: api.ErrFuel, At: 32, Ticks: 2})
}
