package turns_test

import (
	"testing"

	"casket/api"
	"casket/turns"
)

// 17.2: End and Left.

func TestEndOfNone(t *testing.T) {
	x := turns.New()
	for _, id := range []int{0, 1, -1, 1<<63 - 1, -1 << 63} {
		wantNoEnd(t, x, id, api.ErrArg)
	}
	load(t, x, 0, "fn f() { }", 9, tree, regs)
	for _, id := range []int{2, 3, -1, -2, 1<<63 - 1, -1 << 63} {
		wantNoEnd(t, x, id, api.ErrArg)
	}
	for id := range 2 {
		wantNoEnd(t, x, id, api.ErrState) // never started
	}
}

// It is false till the run has ended, and may be asked for as often as one likes then.
func TestEndOverTime(t *testing.T) {
	for _, kind := range kinds {
		x := loaded(t, long, 9, kind)
		wantNoEnd(t, x, 0, api.ErrState)
		start(t, x, 0, "f", 9, whole(7))
		wantNoEnd(t, x, 0, api.ErrState)
		for range 4 {
			wantGo(t, x, []int{1}, []int{0}, 1)
			wantNoEnd(t, x, 0, api.ErrState)
		}
		wantGo(t, x, []int{1}, []int{0}, 0)
		for range 3 {
			wantEnd(t, x, 0, want4(7))
		}
	}
}

// A thing goes out once, when the run ends: End gives no second number, and so may be asked twice.
func TestEndTellsAThingOnce(t *testing.T) {
	for _, kind := range kinds {
		x := loaded(t, "let g; fn f() { g = row(2); return g; } fn same() { return g; }", 9, kind)
		for ref := range 2 {
			start(t, x, 0, "f", 9)
			wantGo(t, x, []int{9}, []int{0}, 3)
			for range 3 {
				wantEnd(t, x, 0, api.End{Ticks: 3, Value: thing(api.Row, ref, 2)})
			}
		}
		start(t, x, 0, "same", 9)
		wantGo(t, x, []int{9}, []int{0}, 2)
		wantEnd(t, x, 0, api.End{Ticks: 2, Value: thing(api.Row, 1, 2)})
	}
}

// Each way in which a run ends is told, of both kinds of machines.
func TestEnds(t *testing.T) {
	for _, c := range []struct {
		src  string
		fuel int64
		want api.End
	}{
		{"fn f() { }", 9, api.End{Ticks: 1}},
		{"fn f() { return \"abcdefgh\"; }", 9, api.End{Ticks: 2, Value: text("abcdefgh")}},
		{"fn f() { out 1; }", 1, api.End{Code: api.ErrFuel, At: 9, Ticks: 1}},
		{"fn f() { out 1; }", 2, api.End{Ticks: 2, Out: []string{"1"}}},
		{"fn f() { out 1; return 1 // 0; }", 9, api.End{Code: api.ErrDivZero, At: 25, Ticks: 3, Out: []string{"1"}}},
		{"fn f() { return row(9); }", 9, api.End{Code: api.ErrMemory, At: 16, Ticks: 2}},
		{"fn f() { out row(1); }", 9, api.End{Code: api.ErrType, At: 9, Ticks: 2}},
		{"fn f() { return f(); }", 999, api.End{Code: api.ErrDepth, At: 16, Ticks: 128}},
		{"fn f() { if 1 { } }", 9, api.End{Code: api.ErrType, At: 9, Ticks: 2}},
	} {
		x := loaded(t, c.src, 9, tree, regs)
		for id := range 2 {
			start(t, x, id, "f", c.fuel)
		}
		wantGo(t, x, []int{999, 999}, []int{1, 0}, 2*c.want.Ticks)
		for id, kind := range kinds {
			wantEnd(t, x, id, c.want)
			if end, e := openAlone(t, c.src, 9, kind).Run("f", nil, c.fuel); e != api.OK || !sameEnd(end, c.want) {
				t.Errorf("alone: %s, %d; want %s", short(end), e, short(c.want))
			}
		}
	}
}

// Left rises, whatever the order of the starts; one that was started and has not ticked is under way, one that has made its last tick still is.
func TestLeft(t *testing.T) {
	x := turns.New()
	wantLeft(t, x)
	load(t, x, 0, "fn f() { }", 9, tree, regs, regs, tree, regs)
	wantLeft(t, x)
	start(t, x, 3, "f", 9)
	wantLeft(t, x, 3)
	start(t, x, 1, "f", 9)
	wantLeft(t, x, 1, 3)
	start(t, x, 4, "f", 9)
	start(t, x, 0, "f", 9)
	wantLeft(t, x, 0, 1, 3, 4)
	start(t, x, 2, "f", 9)
	wantLeft(t, x, 0, 1, 2, 3, 4)
	wantGo(t, x, []int{1, 1, 1}, []int{4, 2, 0}, 3)
	wantLeft(t, x, 0, 1, 2, 3, 4)
	wantGo(t, x, []int{1, 1}, []int{2, 4}, 0)
	wantLeft(t, x, 0, 1, 3)
	start(t, x, 2, "f", 0)
	wantLeft(t, x, 0, 1, 2, 3)
	wantGo(t, x, []int{2, 2, 2, 2}, []int{3, 2, 1, 0}, 2)
	wantLeft(t, x)
}

// Left, End and what is refused change nothing: things that a machine holds stay held, their numbers too.
func TestAskingChangesNothing(t *testing.T) {
	for _, kind := range kinds {
		x := loaded(t, "fn f() { let a = row(1); return a; } fn g(a) { a[0] = 5; return a[0]; }", 9, kind)
		start(t, x, 0, "f", 9)
		for range 4 {
			wantLeft(t, x, 0)
			x.End(0)
			x.Go(nil, []int{0})
			x.Go([]int{1}, []int{0})
		}
		wantEnd(t, x, 0, api.End{Ticks: 3, Value: thing(api.Row, 0, 1)})
		for range 3 {
			wantLeft(t, x)
			start(t, x, 0, "g", 9, thing(api.Row, 0, 1))
			wantLeft(t, x, 0)
			wantGo(t, x, []int{9}, []int{0}, 3)
			wantEnd(t, x, 0, api.End{Ticks: 3, Value: whole(5)})
		}
	}
}

// A Turns that New has not made has no machines, and is one all the same.
func TestZero(t *testing.T) {
	var x turns.Turns
	wantLeft(t, &x)
	wantNoEnd(t, &x, 0, api.ErrArg)
	wantStart(t, &x, 0, "f", nil, 9, api.ErrArg)
	wantGo(t, &x, []int{9}, []int{0}, 0)
	load(t, &x, 0, "fn f() { }", 9, tree, regs)
	start(t, &x, 1, "f", 9)
	wantLeft(t, &x, 1)
}
