package walk_test

import (
	"math/rand"
	"strings"
	"testing"

	"casket/api"
)

// Promises 15.8 and 15.11.

func TestNoEnd(t *testing.T) {
	m := load(t, "fn f() { nil; }", plenty)
	wantNoEnd(t, m)
	start(t, m, "f", 9)
	wantNoEnd(t, m)
	for m.Step() {
		wantNoEnd(t, m)
	}
	wantEnded(t, m, api.End{Ticks: 2})
}

// Value is of OK alone; At of errors alone; Ticks and lines of all.
func TestEnds(t *testing.T) {
	src := `fn f(n) { out "one"; out "two"; let r = row(1); out n; if n > 0 { return r[n]; } return n; }`
	m := load(t, src, plenty)
	at := func(part string) int { return strings.Index(src, part) }
	for _, x := range []struct {
		arg  api.Raw
		fuel int64
		want api.End
	}{
		{whole(0), 9, api.End{Ticks: 7, Value: whole(0), Out: []string{"one", "two", "0"}}},
		{whole(1), 9, api.End{Code: api.ErrIndex, At: at("[n"), Ticks: 7, Out: []string{"one", "two", "1"}}},
		{text("x"), 9, api.End{Code: api.ErrType, At: at("> 0"), Ticks: 6, Out: []string{"one", "two", "x"}}},
		{whole(0), 6, api.End{Code: api.ErrFuel, At: at("return n"), Ticks: 6, Out: []string{"one", "two", "0"}}},
		{whole(0), 2, api.End{Code: api.ErrFuel, At: at("out \"two"), Ticks: 2, Out: []string{"one"}}},
		{whole(0), 1, api.End{Code: api.ErrFuel, At: at("out"), Ticks: 1}},
		{whole(0), 0, api.End{Code: api.ErrFuel, At: at("f(n)")}},
	} {
		if end, e := m.Run("f", raws(x.arg), x.fuel); e != api.OK || !sameEnd(end, x.want) {
			t.Errorf("f(%v), fuel %d: %v, %d; want %v", x.arg, x.fuel, end, e, x.want)
		}
		wantEnded(t, m, x.want)
	}
}

// Another start: the old end is gone; globals are kept, and what went out is held.
func TestRunsBehindRuns(t *testing.T) {
	m := load(t, "let n; fn f() { if n == nil { n = 0; } n = n + 1; out n; return row(n); } fn bad() { n = n + 100; n = n // 0; }", plenty)
	one := run(t, m, "f")
	if !sameEnd(one, api.End{Ticks: 6, Value: thing(api.Row, 0, 1), Out: []string{"1"}}) {
		t.Error(one)
	}
	start(t, m, "f", 9)
	wantNoEnd(t, m)
	for m.Step() {
		wantNoEnd(t, m)
	}
	wantEnded(t, m, api.End{Ticks: 5, Value: thing(api.Row, 1, 2), Out: []string{"2"}})
	if bad := run(t, m, "bad"); bad.Code != api.ErrDivZero {
		t.Error(bad)
	}
	wantGlobal(t, m, "n", whole(102)) // what a run had changed before it was refused
	if three := run(t, m, "f"); three.Value != thing(api.Row, 2, 103) || three.Out[0] != "103" || len(three.Out) != 1 {
		t.Error(three)
	}
	wantPeek(t, m, 0, 0, null)
	wantPeek(t, m, 1, 1, null)
	wantReach(t, m, 2+3+104)
}

// The value goes out when the run ends, once, asked for or not; it is told still when it is let go.
func TestValueGoesOutOnce(t *testing.T) {
	m := load(t, "let g; fn f() { g = row(2); return g; }", plenty)
	start(t, m, "f", 9)
	for m.Step() {
		wantNoEnd(t, m)
	}
	wantGlobal(t, m, "g", thing(api.Row, 0, 2))
	wantRelease(t, m, 0, api.OK)
	wantGlobal(t, m, "g", thing(api.Row, 1, 2))
	want := api.End{Ticks: 3, Value: thing(api.Row, 0, 2)}
	wantEnded(t, m, want)
	wantRelease(t, m, 0, api.ErrRef) // End has given nothing anew
	wantRelease(t, m, 1, api.OK)
	wantEnded(t, m, want)
	wantReach(t, m, 3)
}

// Run answers Start's error, and else what End does.
func TestRun(t *testing.T) {
	m := load(t, "fn f(n) { if n > 0 { return f(n - 1); } return text(n); }", plenty)
	end, e := m.Run("f", raws(whole(9)), plenty)
	if e != api.OK || !sameEnd(end, api.End{Ticks: 30, Value: text("0")}) {
		t.Error(end, e)
	}
	wantEnded(t, m, end)
	wantNoStart(t, m, "f", nil, plenty, api.ErrCount)
	start(t, m, "f", plenty, whole(9))
	m.Step()
	was, _ := m.State()
	wantNoStart(t, m, "f", raws(whole(9)), plenty, api.ErrState)
	wantState(t, m, was)
}

// Behind a run's end its frames are no roots, however it ended.
func TestFramesAreNoRoots(t *testing.T) {
	src := `fn f(n, s) { let a = row(9); if n == 1 { return 5; } if n == 2 { return nil + row(9)[0]; } if n == 3 { return f(n, a); } if n == 4 { while true { } } if n == 5 { while true { out "12345678901234567890"; } } return row(10)[f(6, 0)]; }`
	codes := []api.Errno{api.ErrDepth, api.OK, api.ErrType, api.ErrDepth, api.ErrFuel, api.ErrOut}
	m := load(t, src, 10*plenty)
	for n, code := range codes {
		end, e := m.Run("f", raws(whole(int64(n)), text("abcdefgh")), 20*plenty)
		if e != api.OK || end.Code != code {
			t.Errorf("f(%d): %v, %d; want %d", n, end.Code, e, code)
		}
		wantReach(t, m, 0)
	}
	full := load(t, "fn f(s) { let a = row(3); return s // 2; }", 7)
	for range 5 {
		if end := run(t, full, "f", text(filler(16))); end.Code != api.ErrType {
			t.Error(end)
		}
	}
}

// Every run ends, with at most fuel ticks.
func TestEveryRunEnds(t *testing.T) {
	for _, src := range []string{
		"fn f() { while true { } }",
		"fn f() { for i in ~140737488355327..140737488355327 { } }",
		"fn f() { while true { f(); } }",
		"fn f() { while not (g() == 1) { } } fn g() { }",
		"fn f() { l: while true { while true { continue l; } } }",
		"fn f() { g(); } fn g() { h(); h(); } fn h() { for i in 0..9 { k(); } } fn k() { for i in 0..9 { for j in 0..9 { } } }",
	} {
		for _, fuel := range []int64{0, 1, 2, 3, 10, 99, 1000} {
			end, e := load(t, src, 0).Run("f", nil, fuel)
			if e != api.OK || end.Ticks > fuel || end.Code == api.ErrFuel && end.Ticks != fuel || end.Code != api.ErrFuel && end.Code != api.OK && end.Code != api.ErrDepth {
				t.Errorf("%s, fuel %d: %v, %d", src, fuel, end, e)
			}
		}
	}
}

// Just enough fuel, and one less, of drawn sources: with less fuel a run is the same up to where it ends.
func TestJustEnoughFuel(t *testing.T) {
	for seed := range int64(300) {
		src := drawn(seed)
		args := drawnArgs(rand.New(rand.NewSource(seed)))
		whole, _ := load(t, src, plenty).Run("f", args, plenty)
		for _, fuel := range []int64{whole.Ticks, whole.Ticks - 1, whole.Ticks / 2} {
			end, e := load(t, src, plenty).Run("f", args, max(fuel, 0))
			if fuel < whole.Ticks {
				if e != api.OK || end.Code != api.ErrFuel || end.Ticks != fuel || len(end.Out) > len(whole.Out) {
					t.Errorf("seed %d, fuel %d: %v, %d; all of it: %v", seed, fuel, end, e, whole)
				}
			} else if whole.Code != api.ErrFuel && !sameEnd(end, whole) {
				t.Errorf("seed %d, fuel %d: %v, %d; all of it: %v", seed, fuel, end, e, whole)
			}
		}
	}
}
