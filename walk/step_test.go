package walk_test

import (
	"iter"
	"slices"
	"strings"
	"testing"

	"casket/api"
	"casket/walk"
)

// Promise 15.7.

const stepped = "let g; fn f(a) { let b = a * 2; for i in 0..2 { g = h(b, i); } out g; return b; } fn h(x, y) { return x + y; }"

// states are those of a run of f of stepped, with 5.
func states() []api.State {
	v := func(list ...int64) []api.Raw {
		var out []api.Raw
		for _, i := range list {
			out = append(out, whole(i))
		}
		return out
	}
	at := func(part string) int { return strings.Index(stepped, part) }
	f, h, b, loop, g := at("f(a)"), at("h(x"), at("b ="), at("for"), at("g = h")
	x, say, last := at("return x"), at("out"), at("return b")
	return []api.State{
		{Ticks: 1, Depth: 1, At: f, Vars: v(5)},
		{Ticks: 2, Depth: 1, At: b, Vars: v(5)},
		{Ticks: 3, Depth: 1, At: loop, Vars: v(5, 10)},
		{Ticks: 4, Depth: 1, At: loop, Vars: v(5, 10)},
		{Ticks: 5, Depth: 1, At: g, Vars: v(5, 10, 0)},
		{Ticks: 6, Depth: 2, At: h, Vars: v(10, 0)},
		{Ticks: 7, Depth: 2, At: x, Vars: v(10, 0)},
		{Ticks: 8, Depth: 1, At: loop, Vars: v(5, 10)},
		{Ticks: 9, Depth: 1, At: g, Vars: v(5, 10, 1)},
		{Ticks: 10, Depth: 2, At: h, Vars: v(10, 1)},
		{Ticks: 11, Depth: 2, At: x, Vars: v(10, 1)},
		{Ticks: 12, Depth: 1, At: loop, Vars: v(5, 10)},
		{Ticks: 13, Depth: 1, At: say, Vars: v(5, 10)},
		{Ticks: 14, Depth: 1, At: last, Vars: v(5, 10), Out: 1},
	}
}

func wantState(t *testing.T, m *walk.Machine, want api.State) {
	t.Helper()
	for range 2 {
		if got, ok := m.State(); !ok || !sameState(got, want) {
			t.Errorf("State: %v, %v; want %v", got, ok, want)
		}
	}
}

func TestStep(t *testing.T) {
	m := load(t, stepped, plenty)
	wantIdle(t, m)
	start(t, m, "f", plenty, whole(5))
	for _, want := range states() {
		if !m.Step() {
			t.Fatalf("no step to %v", want)
		}
		wantState(t, m, want)
		wantNoEnd(t, m)
	}
	for range 3 {
		if m.Step() {
			t.Error("Step is true at the end")
		}
	}
	wantEnded(t, m, api.End{Ticks: 14, Value: whole(10), Out: []string{"11"}})
}

func TestSteps(t *testing.T) {
	m := load(t, stepped, plenty)
	steps := m.Steps() // asked for ahead of the run
	start(t, m, "f", plenty, whole(5))
	if got := slices.Collect(steps); !slices.EqualFunc(got, states(), sameState) {
		t.Errorf("%v", got)
	}
	wantEnded(t, m, api.End{Ticks: 14, Value: whole(10), Out: []string{"11"}})
	start(t, m, "f", plenty, whole(5))
	if got := slices.Collect(steps); !slices.EqualFunc(got, states(), sameState) {
		t.Errorf("asked for once more: %v", got)
	}
}

// Steps may be left at each state, and gone on with later, by itself or by Step.
func TestStepsLeft(t *testing.T) {
	all := states()
	for n := range len(all) + 1 {
		m := load(t, stepped, plenty)
		start(t, m, "f", plenty, whole(5))
		var got []api.State
		if n > 0 {
			for s := range m.Steps() {
				if got = append(got, s); len(got) == n {
					break
				}
			}
			wantState(t, m, all[n-1])
		}
		wantNoEnd(t, m)
		if n < len(all) && m.Step() {
			wantState(t, m, all[n])
			got = append(got, all[n])
		}
		for s := range m.Steps() {
			got = append(got, s)
		}
		if !slices.EqualFunc(got, all, sameState) {
			t.Errorf("left behind %d: %v", n, got)
		}
		wantEnded(t, m, api.End{Ticks: 14, Value: whole(10), Out: []string{"11"}})
	}
}

// Other calls between two states change nothing, but that Step goes on.
func TestStepsWithin(t *testing.T) {
	m := load(t, stepped, plenty)
	start(t, m, "f", plenty, whole(5))
	var ticks []int64
	for s := range m.Steps() {
		wantState(t, m, s)
		m.Reach()
		ticks = append(ticks, s.Ticks)
		m.Step()
	}
	if !slices.Equal(ticks, []int64{1, 3, 5, 7, 9, 11, 13}) {
		t.Error(ticks)
	}
	start(t, m, "f", plenty, whole(5))
	again := 0
	for range m.Steps() {
		for range m.Steps() { // to the end, and a new run
		}
		if again++; again < 3 {
			start(t, m, "f", plenty, whole(5))
		}
	}
	if again != 3 {
		t.Error(again)
	}
	wantEnded(t, m, api.End{Ticks: 14, Value: whole(10), Out: []string{"11"}})
}

// States that are pulled one by one.
func TestStepsPulled(t *testing.T) {
	m := load(t, stepped, plenty)
	start(t, m, "f", plenty, whole(5))
	next, leave := iter.Pull(m.Steps())
	defer leave()
	for _, want := range states() {
		if got, ok := next(); !ok || !sameState(got, want) {
			t.Errorf("%v, %v; want %v", got, ok, want)
		}
		wantState(t, m, want)
	}
	if _, ok := next(); ok {
		t.Error("one too many")
	}
}

// Variables of each kind; hidden ones; things without Ref, and no number is given for them.
func TestStateVars(t *testing.T) {
	src := `fn f(a, n) {
		let t = true; let d = nan; let s = "0123456789"; let e = "";
		let r = row(3); let b = u8(9); let v = view(b, "i16", 2, 3); let z = f64(1); let y = f32(0);
		if true { let a = r; let b = b; for n in 7..8 { let n = nil; out 1; } }
		r; return y;
	}`
	m := load(t, src, plenty)
	start(t, m, "f", plenty, null, whole(1<<60))
	outer := raws(null, whole(1<<60), truth(true), double(api.Canon), text("0123456789"), text(""),
		thing(api.Row, 0, 3), thing(api.U8, 0, 9), thing(api.I16, 0, 3), thing(api.F64, 0, 1), thing(api.F32, 0, 0))
	inner := slices.Concat(outer, raws(thing(api.Row, 0, 3), thing(api.U8, 0, 9)))
	want := [][]api.Raw{outer[:2]}
	for n := 2; n <= len(outer); n++ { // each let, and the if
		want = append(want, outer[:n])
	}
	round := slices.Concat(inner, raws(whole(7)))
	want = append(want, outer, inner[:len(inner)-1], inner, inner, round, slices.Concat(round, raws(null)), inner, outer, outer)
	i := 0
	for s := range m.Steps() {
		if i >= len(want) || !slices.Equal(s.Vars, want[i]) {
			t.Fatalf("tick %d: %v\nwant %v", s.Ticks, s.Vars, want[min(i, len(want)-1)])
		}
		i++
	}
	if end, _ := m.End(); i != len(want) || end.Value != thing(api.F32, 0, 0) {
		t.Errorf("%d states, %v", i, end)
	}
}

// Depth, and whose variables: the innermost function's, its own alone.
func TestStateDepth(t *testing.T) {
	src := "let x; fn f(n) { let v = n; if n > 0 { f(n - 1); } let w = v; }"
	m := load(t, src, plenty)
	start(t, m, "f", plenty, whole(2))
	var depths []int
	for s := range m.Steps() {
		depths = append(depths, s.Depth)
		if len(s.Vars) == 0 || s.Vars[0] != whole(int64(3-s.Depth)) {
			t.Errorf("%v", s)
		}
	}
	if !slices.Equal(depths, []int{1, 1, 1, 1, 2, 2, 2, 2, 3, 3, 3, 3, 2, 1}) {
		t.Error(depths)
	}
}

// A run without a tick has no state.
func TestStateWithoutTick(t *testing.T) {
	m := load(t, stepped, plenty)
	start(t, m, "f", 0, whole(5))
	if s, ok := m.State(); ok {
		t.Error(s)
	}
	if m.Step() {
		t.Error("a tick without fuel")
	}
	wantEnded(t, m, api.End{Code: api.ErrFuel, At: 10})
}
