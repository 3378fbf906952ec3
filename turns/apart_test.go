package turns_test

import (
	"slices"
	"testing"

	"casket/api"
	"casket/turns"
)

// R3: what is handed in is neither changed nor kept; what is answered shares nothing with what is kept. R4: machines do not hang on one another.

// Two machines of one source: each has its own globals, heap, held things and sites.
func TestMachinesAreApart(t *testing.T) {
	src := "let g; fn set(a) { g = a; return g; } fn get() { return g; } fn big(n) { g = row(n); return g; }"
	for _, first := range kinds {
		for _, second := range kinds {
			x := loaded(t, src, 10, first, second)
			start(t, x, 0, "set", 9, whole(5))
			wantGo(t, x, []int{2}, []int{0}, 2)
			start(t, x, 1, "get", 9)
			wantGo(t, x, []int{9, 9}, []int{0, 1}, 1+2)
			wantEnd(t, x, 0, api.End{Ticks: 3, Value: whole(5)})
			wantEnd(t, x, 1, api.End{Ticks: 2})
			for id := range 2 { // each has units for nine elements
				start(t, x, id, "big", 9, whole(9))
			}
			wantGo(t, x, []int{9, 9}, []int{0, 1}, 6)
			for id := range 2 { // and gives its own numbers, from 0 on
				wantEnd(t, x, id, api.End{Ticks: 3, Value: thing(api.Row, 0, 9)})
			}
			start(t, x, 1, "set", 9, text("kept"))
			start(t, x, 0, "get", 9)
			wantGo(t, x, []int{9, 9}, []int{1, 0}, 5)
			wantEnd(t, x, 0, api.End{Ticks: 2, Value: thing(api.Row, 0, 9)})
			wantEnd(t, x, 1, api.End{Ticks: 3, Value: text("kept")})
		}
	}
}

// A thing that one machine holds is nobody's at another one.
func TestReferencesAreApart(t *testing.T) {
	x := loaded(t, "fn f(a) { return row(1); }", 9, tree, regs)
	start(t, x, 0, "f", 9, null)
	wantGo(t, x, []int{9}, []int{0}, 2)
	wantStart(t, x, 1, "f", raws(thing(api.Row, 0, 1)), 9, api.ErrRef)
	wantStart(t, x, 0, "f", raws(thing(api.Row, 0, 1)), 9, api.OK)
}

// Machines of several Turns have nothing to do with one another.
func TestTurnsAreApart(t *testing.T) {
	x, y := turns.New(), turns.New()
	load(t, x, 0, long, 9, tree)
	load(t, y, 0, long, 9, regs)
	load(t, x, 1, long, 9, regs)
	start(t, x, 1, "f", 9, whole(1))
	wantLeft(t, y)
	wantNoEnd(t, y, 1, api.ErrArg)
	wantGo(t, y, []int{9, 9}, []int{0, 1}, 0)
	wantLeft(t, x, 1)
	wantGo(t, x, []int{9, 9}, []int{0, 1}, 4)
	wantEnd(t, x, 1, want4(1))
	wantNoEnd(t, y, 0, api.ErrState)
}

// What was answered may be written over and grown.
func TestAnswersAreApart(t *testing.T) {
	for _, kind := range kinds {
		x := started(t, kind)
		left, other := x.Left(), x.Left()
		grown := append(left, 77)
		_ = append(other, 88)
		if grown[3] != 77 {
			t.Error("two lists share their room")
		}
		clear(left)
		wantLeft(t, x, 0, 1, 2)
		wantGo(t, x, []int{9}, []int{1}, 4)
		end, _ := x.End(1)
		twin, _ := x.End(1)
		out := append(end.Out, "grown")
		_ = append(twin.Out, "other")
		if out[2] != "grown" {
			t.Error("two ends share their room")
		}
		clear(end.Out)
		clear(twin.Out)
		wantEnd(t, x, 1, want4(1))
	}
}

// What was answered is not changed by what is done behind it.
func TestAnswersStay(t *testing.T) {
	for _, kind := range kinds {
		x := started(t, kind)
		left := x.Left()
		wantGo(t, x, []int{9}, []int{1}, 4)
		end, _ := x.End(1)
		for i := range int64(5) {
			start(t, x, 1, "f", 9, whole(i+50))
			x.Go([]int{9, 9, 9}, []int{0, 1, 2})
		}
		if !slices.Equal(left, []int{0, 1, 2}) || !sameEnd(end, want4(1)) {
			t.Errorf("%v, %s", left, short(end))
		}
	}
}

// What is handed in is not changed, and nothing behind its end is read or written; writing over it later changes nothing.
func TestArgumentsAreApart(t *testing.T) {
	for _, kind := range kinds {
		x := loaded(t, "fn f(a, b) { out a; out b; return b; }", 9, kind, kind)
		room := raws(text("abcdefgh"), whole(2), text("behind"))
		args := room[:2]
		wantStart(t, x, 0, "f", args, 9, api.OK)
		wantStart(t, x, 0, "f", args, 9, api.ErrState)
		slicesRoom, idsRoom := []int{1, 2, 9, 9}, []int{0, 1, 0, 0}
		wantGo(t, x, slicesRoom[:2], idsRoom[:3], 1)
		wantGo(t, x, slicesRoom[:3], idsRoom[:2], 1)
		if !slices.Equal(room, raws(text("abcdefgh"), whole(2), text("behind"))) ||
			!slices.Equal(slicesRoom, []int{1, 2, 9, 9}) || !slices.Equal(idsRoom, []int{0, 1, 0, 0}) {
			t.Error("changed:", room, slicesRoom, idsRoom)
		}
		clear(room)
		clear(slicesRoom)
		wantGo(t, x, []int{9}, []int{0}, 2)
		wantEnd(t, x, 0, api.End{Ticks: 4, Value: whole(2), Out: []string{"abcdefgh", "2"}})
	}
}
