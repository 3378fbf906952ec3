package watch_test

import (
	"slices"
	"strings"
	"testing"

	"casket/api"
	"casket/watch"
)

// 21.1: Profile.

// refused are the ways in which Start of f, which has one parameter, refuses; in their order, each with all that is told behind it.
var refused = []struct {
	name string
	args []api.Raw
	fuel int64
	want api.Errno
}{
	{"", nil, 9, api.ErrFunc},
	{"g", nil, 9, api.ErrFunc},
	{"len", raws(text("a")), 9, api.ErrFunc},
	{"none", raws(api.Raw{Kind: 99}), -1, api.ErrFunc},
	{"f", nil, -1, api.ErrCount},
	{"f", raws(null, api.Raw{Kind: 99}), 9, api.ErrCount},
	{"z", raws(null), 9, api.ErrCount},
	{"f", raws(api.Raw{Kind: 99}), -1, api.ErrRange},
	{"f", raws(null), api.MaxFuel + 1, api.ErrRange},
	{"f", raws(null), -1 << 63, api.ErrRange},
	{"f", raws(api.Raw{Kind: 99}), 9, api.ErrArg},
	{"f", raws(api.Raw{Kind: api.Bool, Int: 2}), 9, api.ErrArg},
	{"f", raws(api.Raw{Kind: api.Int, Int: 2, Text: "a"}), 9, api.ErrArg},
	{"f", raws(text(strings.Repeat("x", api.MaxBytes+1))), 9, api.ErrLong},
	{"f", raws(thing(api.Row, 7, 1)), 9, api.ErrRef},
	{"f", raws(text(strings.Repeat("x", 100))), 9, api.ErrMemory},
}

// refusing is the source that they are of; it has room for a row.
const refusing = "let g; fn f(a) { out 1; return a; } fn z() { return row(1); }"

func TestProfileRefused(t *testing.T) {
	for _, kind := range kinds {
		m := open(t, refusing, 3, kind)
		for _, c := range refused { // no run has ended yet
			wantNoProfile(t, m, c.name, c.args, c.fuel, c.want)
			wantNoRun(t, m)
			if end, ok := m.End(); ok {
				t.Error("an End:", short(end))
			}
		}
		wantProfile(t, m, "z", nil, 9, []api.Count{{At: 39, N: 1}, {At: 45, N: 1}}, api.End{Ticks: 2, Value: thing(api.Row, 0, 1)})
		for _, c := range refused { // the old end stays
			wantNoProfile(t, m, c.name, c.args, c.fuel, c.want)
			wantNoRun(t, m)
			if end, ok := m.End(); !ok || !sameEnd(end, api.End{Ticks: 2, Value: thing(api.Row, 0, 1)}) {
				t.Error("End:", short(end), ok)
			}
		}
	}
}

// A run that is under way goes on as it stood, wherever it stands.
func TestProfileUnderWay(t *testing.T) {
	src := "fn f(a) { for i in 0..2 { out g(a + i); } return a; } fn g(n) { return n * 2; }"
	for _, kind := range kinds {
		x := traced(t, src, kind, plenty, whole(5))
		for made := range len(x.states) + 1 {
			m := begun(t, src, kind, whole(5))
			step(t, m, made)
			wantNoProfile(t, m, "f", raws(whole(6)), plenty, api.ErrState)
			wantNoProfile(t, m, "none", nil, -1, api.ErrState)
			wantStand(t, m, x, made)
			wantRest(t, m, x, made)
		}
	}
}

func TestProfiles(t *testing.T) {
	for _, c := range []struct {
		name, src string
		counts    []api.Count
		end       api.End
	}{
		{"one tick", "fn f() { }", []api.Count{{At: 3, N: 1}}, api.End{Ticks: 1}},
		{"two ticks", "fn f() { return 7; }", []api.Count{{At: 3, N: 1}, {At: 9, N: 1}}, api.End{Ticks: 2, Value: whole(7)}},
		{"a thing", "fn f() { return u8(3); }", []api.Count{{At: 3, N: 1}, {At: 9, N: 1}}, api.End{Ticks: 2, Value: thing(api.U8, 0, 3)}},
		{"an error", "fn f() { out 5; out 1 // 0; out 2; }", []api.Count{{At: 3, N: 1}, {At: 9, N: 1}, {At: 16, N: 1}}, api.End{Code: api.ErrDivZero, At: 22, Ticks: 3, Out: []string{"5"}}},
		{"an error in the second round", "fn f() { for i in 0..9 { out 1 // (1 - i); } }", []api.Count{{At: 3, N: 1}, {At: 9, N: 3}, {At: 25, N: 2}}, api.End{Code: api.ErrDivZero, At: 31, Ticks: 6, Out: []string{"1"}}},
		{"an error in what is called", "fn f() { g(); } fn g() { out row(1); }", []api.Count{{At: 3, N: 1}, {At: 9, N: 1}, {At: 19, N: 1}, {At: 25, N: 1}}, api.End{Code: api.ErrType, At: 25, Ticks: 4}},
		{"while", "fn f() { let n = 0; while n < 3 { n = n + 1; } }", []api.Count{{At: 3, N: 1}, {At: 13, N: 1}, {At: 20, N: 5}, {At: 34, N: 3}}, api.End{Ticks: 10}},
		{"if and else if", "fn f() { if 1 > 2 { out 1; } else if true { out 2; } }", []api.Count{{At: 3, N: 1}, {At: 9, N: 1}, {At: 34, N: 1}, {At: 44, N: 1}}, api.End{Ticks: 4, Out: []string{"2"}}},
		{"loops in a loop", "fn f() { for i in 0..3 { for k in 0..i { } } }", []api.Count{{At: 3, N: 1}, {At: 9, N: 5}, {At: 25, N: 9}}, api.End{Ticks: 15}},
		{"what is called stands ahead", "fn g(n) { return n; } fn f() { g(1); g(g(2)); }", []api.Count{{At: 3, N: 3}, {At: 10, N: 3}, {At: 25, N: 1}, {At: 31, N: 1}, {At: 37, N: 1}}, api.End{Ticks: 9}},
		{"to and fro", "fn h() { } fn f() { g(); h(); g(); h(); } fn g() { h(); }", []api.Count{{At: 3, N: 4}, {At: 14, N: 1}, {At: 20, N: 1}, {At: 25, N: 1}, {At: 30, N: 1}, {At: 35, N: 1}, {At: 45, N: 2}, {At: 51, N: 2}}, api.End{Ticks: 13}},
		{"itself", "fn f() { return g(5); } fn g(n) { if n > 0 { return g(n - 1); } return n; }", []api.Count{{At: 3, N: 1}, {At: 9, N: 1}, {At: 27, N: 6}, {At: 34, N: 6}, {At: 45, N: 5}, {At: 64, N: 1}}, api.End{Ticks: 20, Value: whole(0)}},
		{"two that call each other", "fn f() { out g(5); } fn g(n) { if n < 1 { return 0; } return h(n - 1); } fn h(n) { if n < 1 { return 1; } return g(n - 1); }", []api.Count{{At: 3, N: 1}, {At: 9, N: 1}, {At: 24, N: 3}, {At: 31, N: 3}, {At: 54, N: 3}, {At: 76, N: 3}, {At: 83, N: 3}, {At: 94, N: 1}, {At: 106, N: 2}}, api.End{Ticks: 20, Out: []string{"1"}}},
		{"too deep", "fn f() { return f(); }", []api.Count{{At: 3, N: 64}, {At: 9, N: 64}}, api.End{Code: api.ErrDepth, At: 16, Ticks: 128}},
	} {
		for _, kind := range kinds {
			m := open(t, c.src, plenty, kind)
			wantProfile(t, m, "f", nil, plenty, c.counts, c.end)
			wantNoRun(t, m)
			if t.Failed() {
				t.Fatal(c.name, kind)
			}
		}
	}
}

// With fuel for each number of ticks: as many are counted, and the run ends where the next one would have been.
func TestProfileWithoutFuel(t *testing.T) {
	src := "fn h(n) { return n; } fn f(a) { for i in 0..a { out h(h(i)); } while a > 0 { a = h(a - 1); } return h(7); }"
	for _, kind := range kinds {
		all := traced(t, src, kind, plenty, whole(3))
		for fuel := range int64(len(all.states) + 3) {
			x := all
			if made := int(fuel); made < len(all.states) {
				next := all.states[made] // the lines that stand ahead of it are told
				x = trace{all.states[:made], api.End{Code: api.ErrFuel, At: next.At, Ticks: fuel, Out: all.end.Out[:next.Out]}}
			}
			m := open(t, src, plenty, kind)
			wantProfile(t, m, "f", raws(whole(3)), fuel, x.counts(), x.end)
			wantNoRun(t, m)
		}
	}
}

// 21.5: the counts together are the ticks; places rise, each once.
func TestProfileAddsUp(t *testing.T) {
	src := "fn z(n) { let s = 0; for i in 0..n { if i % 3 == 0 { continue; } s = s + y(i); } return s; } fn f(n) { out z(n); return y(z(n)); } fn y(n) { while n > 3 { n = n // 2; } return n; }"
	for _, kind := range kinds {
		for n := range int64(12) {
			l, end, e := watch.Profile(open(t, src, plenty, kind), "f", raws(whole(n)), plenty)
			sum := int64(0)
			for i, c := range l {
				sum += c.N
				if c.N < 1 || i > 0 && l[i-1].At >= c.At {
					t.Error("counts:", l)
				}
			}
			if e != api.OK || sum != end.Ticks || sum < 9 {
				t.Errorf("%d ticks are counted of %d", sum, end.Ticks)
			}
			if !slices.Equal(l, traced(t, src, kind, plenty, whole(n)).counts()) {
				t.Error("counts:", l)
			}
		}
	}
}

// Behind it no run is under way, End tells the same, and a thing that went out is held by one number.
func TestBehindProfile(t *testing.T) {
	src := "let g; fn f(n) { g = row(n); out n; return g; } fn bad() { out 1; out nil < 1; }"
	for _, kind := range kinds {
		m := open(t, src, 100, kind)
		wantProfile(t, m, "f", raws(whole(2)), plenty, []api.Count{{At: 10, N: 1}, {At: 17, N: 1}, {At: 29, N: 1}, {At: 36, N: 1}}, api.End{Ticks: 4, Value: thing(api.Row, 0, 2), Out: []string{"2"}})
		for range 2 {
			wantNoRun(t, m)
			if end, ok := m.End(); !ok || !sameEnd(end, api.End{Ticks: 4, Value: thing(api.Row, 0, 2), Out: []string{"2"}}) {
				t.Error("End:", short(end), ok)
			}
			if r, e := m.Global("g"); e != api.OK || r != thing(api.Row, 0, 2) {
				t.Error("Global:", r, e)
			}
		}
		wantProfile(t, m, "bad", nil, plenty, []api.Count{{At: 51, N: 1}, {At: 59, N: 1}, {At: 66, N: 1}}, api.End{Code: api.ErrType, At: 74, Ticks: 3, Out: []string{"1"}})
		wantNoRun(t, m)
		if end, ok := m.End(); !ok || !sameEnd(end, api.End{Code: api.ErrType, At: 74, Ticks: 3, Out: []string{"1"}}) {
			t.Error("End:", short(end), ok)
		}
		if e := m.SetGlobal("g", whole(1)); e != api.OK {
			t.Error("SetGlobal:", e)
		}
	}
}

// Profile twice counts anew; what the machine keeps goes on.
func TestProfileTwice(t *testing.T) {
	src := "let n; fn f() { if n == nil { n = 0; } n = n + 1; for i in 0..n { out i; } return row(n); }"
	for _, kind := range kinds {
		m, twin := open(t, src, plenty, kind), open(t, src, plenty, kind)
		for i := range 6 {
			start(t, twin, "f", plenty)
			x := byHand(t, twin)
			wantProfile(t, m, "f", nil, plenty, x.counts(), x.end)
			if x.end.Value != thing(api.Row, i, i+1) {
				t.Error("the row:", x.end.Value)
			}
		}
		for range 2 { // of the same it tells the same
			wantProfile(t, open(t, example, 9, kind), "f", nil, 4, []api.Count{{At: 3, N: 1}, {At: 9, N: 2}, {At: 25, N: 1}}, api.End{Code: api.ErrFuel, At: 9, Ticks: 4, Out: []string{"0"}})
		}
	}
}
