package turns_test

import (
	"strings"
	"testing"

	"casket/api"
	"casket/turns"
)

// 17.1: Start.

// Of a machine that there is not it is ErrArg, whatever else is wrong.
func TestStartOfNone(t *testing.T) {
	wrong := raws(api.Raw{Kind: 99})
	x := turns.New()
	for _, id := range []int{0, 1, -1, 1<<63 - 1, -1 << 63} {
		wantStart(t, x, id, "f", nil, 9, api.ErrArg)
		wantStart(t, x, id, "", wrong, -1, api.ErrArg)
	}
	load(t, x, 0, "fn f() { }", 9, tree, regs)
	for _, id := range []int{2, 3, -1, -2, 1<<63 - 1, -1 << 63} {
		wantStart(t, x, id, "f", nil, 9, api.ErrArg)
		wantStart(t, x, id, "none", wrong, -1, api.ErrArg)
	}
	wantLeft(t, x)
}

// Else it is what the machine's Start answers, in its order.
func TestStartsOwnAnswer(t *testing.T) {
	for _, kind := range kinds {
		x := loaded(t, "let g; fn f(a) { return a; } fn z() { return row(1); }", 3, kind)
		refused := []struct {
			name string
			args []api.Raw
			fuel int64
			want api.Errno
		}{
			{"", nil, 9, api.ErrFunc},
			{"g", nil, 9, api.ErrFunc},
			{"len", raws(text("a")), 9, api.ErrFunc},
			{"none", raws(api.Raw{Kind: 99}), -1, api.ErrFunc},
			{"f", nil, -1, api.ErrCount},
			{"f", raws(null, api.Raw{Kind: 99}), 9, api.ErrCount},
			{"z", raws(null), 9, api.ErrCount},
			{"f", raws(api.Raw{Kind: 99}), -1, api.ErrRange},
			{"f", raws(null), api.MaxFuel + 1, api.ErrRange},
			{"f", raws(null), -1 << 63, api.ErrRange},
			{"f", raws(api.Raw{Kind: 99}), 9, api.ErrArg},
			{"f", raws(api.Raw{Kind: api.Bool, Int: 2}), 9, api.ErrArg},
			{"f", raws(api.Raw{Kind: api.Int, Int: 2, Text: "a"}), 9, api.ErrArg},
			{"f", raws(text(strings.Repeat("x", api.MaxBytes+1))), 9, api.ErrLong},
			{"f", raws(thing(api.Row, 0, 1)), 9, api.ErrRef},
			{"f", raws(text(strings.Repeat("x", 100))), 9, api.ErrMemory},
		}
		for _, c := range refused {
			wantStart(t, x, 0, c.name, c.args, c.fuel, c.want)
			wantLeft(t, x)
			wantNoEnd(t, x, 0, api.ErrState)
			wantGo(t, x, []int{9}, []int{0}, 0)
		}
		start(t, x, 0, "z", 9)
		for _, c := range refused {
			wantStart(t, x, 0, c.name, c.args, c.fuel, api.ErrState)
			wantLeft(t, x, 0)
		}
		wantGo(t, x, []int{9}, []int{0}, 2)
		for _, c := range refused {
			if c.want != api.ErrRef { // the row is held now
				wantStart(t, x, 0, c.name, c.args, c.fuel, c.want)
			}
			wantEnd(t, x, 0, api.End{Ticks: 2, Value: thing(api.Row, 0, 1)}) // the old end stays
		}
		start(t, x, 0, "f", 0, thing(api.Row, 0, 0))
	}
}

// The greatest and the least fuel; the step beyond no fuel is the end.
func TestFuel(t *testing.T) {
	for _, kind := range kinds {
		x := loaded(t, "fn f() { while true { } }", 9, kind, kind)
		start(t, x, 0, "f", 0)
		start(t, x, 1, "f", api.MaxFuel)
		wantLeft(t, x, 0, 1)
		wantGo(t, x, []int{1, 5}, []int{0, 1}, 5)
		wantLeft(t, x, 1)
		wantEnd(t, x, 0, api.End{Code: api.ErrFuel, At: 3})
		wantGo(t, x, []int{5000}, []int{1}, 5000)
		wantLeft(t, x, 1)
	}
}

// A machine whose run is under way goes on as if nothing had been asked.
func TestStartUnderWay(t *testing.T) {
	for _, kind := range kinds {
		x := loaded(t, "fn f(a) { out a; out a + 1; return a; }", 9, kind)
		start(t, x, 0, "f", 9, whole(5))
		wantStart(t, x, 0, "f", raws(whole(6)), 9, api.ErrState) // it has not ticked
		for range 4 {
			wantGo(t, x, []int{1}, []int{0}, 1)
			wantStart(t, x, 0, "f", raws(whole(6)), 9, api.ErrState)
		}
		wantGo(t, x, []int{1}, []int{0}, 0)
		wantEnd(t, x, 0, api.End{Ticks: 4, Value: whole(5), Out: []string{"5", "6"}})
	}
}

// Another run behind the end: the old end is gone from the Start on.
func TestStartAgain(t *testing.T) {
	for _, kind := range kinds {
		x := loaded(t, "let n; fn f(a) { if n == nil { n = 0; } n = n + a; out n; return n; }", 9, kind)
		sum := int64(0)
		for i := range int64(10) {
			start(t, x, 0, "f", plenty, whole(i))
			wantNoEnd(t, x, 0, api.ErrState)
			wantLeft(t, x, 0)
			sum += i
			ticks := int64(5)
			if i == 0 {
				ticks = 6
			}
			wantGo(t, x, []int{1, 1, 99}, []int{0, 0, 0}, ticks)
			wantEnd(t, x, 0, api.End{Ticks: ticks, Value: whole(sum), Out: []string{short(sum)}})
			wantLeft(t, x)
		}
	}
}
