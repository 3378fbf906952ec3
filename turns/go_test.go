package turns_test

import (
	"testing"

	"casket/api"
	"casket/turns"
)

// 17.2: Go.

// long ticks 4 times and ends with the next step.
const long = "fn f(a) { out a; out a; return a; }"

// started has three machines, each at the beginning of a run of four ticks.
func started(t *testing.T, kind bool) *turns.Turns {
	t.Helper()
	x := loaded(t, long, 9, kind, !kind, kind)
	for id := range 3 {
		start(t, x, id, "f", 9, whole(int64(id)))
	}
	return x
}

func TestGoCounts(t *testing.T) {
	most := 1<<63 - 1
	for _, c := range []struct {
		name        string
		slices, ids []int
		want        int64
		left        []int
	}{
		{"nothing", nil, nil, 0, []int{0, 1, 2}},
		{"no ids", []int{4, 4, 4}, nil, 0, []int{0, 1, 2}},
		{"empty ids", []int{4, 4, 4}, []int{}, 0, []int{0, 1, 2}},
		{"no slices", nil, []int{0, 1, 2}, 0, []int{0, 1, 2}},
		{"empty slices", []int{}, []int{0, 1, 2}, 0, []int{0, 1, 2}},
		{"fewer slices", []int{9}, []int{0, 1, 2}, 4, []int{1, 2}},
		{"more slices", []int{9, 2, 9, 9, 9}, []int{0, 1}, 6, []int{1, 2}},
		{"slices of 0", []int{0, 0, 0}, []int{0, 1, 2}, 0, []int{0, 1, 2}},
		{"slices below 0", []int{-1, -most - 1, 3}, []int{0, 1, 2}, 3, []int{0, 1, 2}},
		{"just all ticks", []int{4, 4, 4}, []int{0, 1, 2}, 12, []int{0, 1, 2}},
		{"the step in which it ends", []int{5, 5, 5}, []int{0, 1, 2}, 12, nil},
		{"a step behind it", []int{6, 6, 6}, []int{0, 1, 2}, 12, nil},
		{"the greatest slices", []int{most, most, most}, []int{0, 1, 2}, 12, nil},
		{"no such machines", []int{5, 5, 5, 5}, []int{-1, 3, most, -most - 1}, 0, []int{0, 1, 2}},
		{"no such ones between", []int{most, 5, most, 1}, []int{-1, 2, 3, 1}, 5, []int{0, 1}},
		{"one several times", []int{1, 1, 1}, []int{1, 1, 1}, 3, []int{0, 1, 2}},
		{"one to its end and on", []int{3, 3, 3}, []int{1, 1, 1}, 4, []int{0, 2}},
		{"one beside others", []int{2, 1, 2, 1, 2}, []int{0, 1, 0, 2, 0}, 6, []int{1, 2}},
		{"from the last to the first", []int{1, 2, 9}, []int{2, 1, 0}, 7, []int{1, 2}},
	} {
		for _, kind := range kinds {
			t.Run(c.name, func(t *testing.T) {
				x := started(t, kind)
				wantGo(t, x, c.slices, c.ids, c.want)
				wantLeft(t, x, c.left...)
			})
		}
	}
}

func want4(a int64) api.End {
	return api.End{Ticks: 4, Value: whole(a), Out: []string{short(a), short(a)}}
}

// Slices say it at the same place: not the slice of the machine's number, nor the next one behind those that were of no machine.
func TestGoTakesTheSliceAtItsPlace(t *testing.T) {
	for _, kind := range kinds {
		x := started(t, kind)
		wantGo(t, x, []int{0, 9, 0, 3, 1}, []int{1, 7, 0, 2, 1}, 4)
		wantGo(t, x, []int{9}, []int{0}, 4)
		wantGo(t, x, []int{9}, []int{1}, 3)
		wantGo(t, x, []int{9}, []int{2}, 1)
		for id := range 3 {
			wantEnd(t, x, id, want4(int64(id)))
		}
	}
}

// A machine that is not started makes no step, and one whose run has ended makes none more.
func TestGoWithoutRuns(t *testing.T) {
	for _, kind := range kinds {
		x := turns.New()
		wantGo(t, x, []int{9, 9}, []int{0, 1}, 0)
		load(t, x, 0, long, 9, kind, !kind)
		wantGo(t, x, []int{9, 9, 9}, []int{0, 1, 0}, 0)
		wantNoEnd(t, x, 0, api.ErrState)
		start(t, x, 1, "f", 9, whole(1))
		wantGo(t, x, []int{9, 9, 9}, []int{0, 1, 1}, 4)
		wantGo(t, x, []int{9, 9, 9}, []int{0, 1, 1}, 0)
		wantEnd(t, x, 1, want4(1))
		wantNoEnd(t, x, 0, api.ErrState)
	}
}

// One list may be both.
func TestGoWithOneListTwice(t *testing.T) {
	for _, kind := range kinds {
		x := started(t, kind)
		list := []int{2, 1, 2, 0}
		wantGo(t, x, list, list, 5)
		wantGo(t, x, []int{9, 9, 9}, []int{0, 1, 2}, 4+3+0)
	}
}

// However a run is cut, as many steps are counted.
func TestGoInPieces(t *testing.T) {
	for _, kind := range kinds {
		for slice := 1; slice < 8; slice++ {
			x := started(t, kind)
			sum, rounds := int64(0), 0
			for ; len(x.Left()) > 0 && rounds < 99; rounds++ {
				sum += x.Go([]int{slice, slice, slice}, []int{2, 0, 1})
			}
			if sum != 12 || rounds != 4/slice+1 {
				t.Errorf("slices of %d: %d steps in %d rounds", slice, sum, rounds)
			}
			for id := range 3 {
				wantEnd(t, x, id, want4(int64(id)))
			}
		}
	}
}

// A run that is refused, or runs out of fuel or memory, ends as others do: its last step is not counted, and the others go on.
func TestGoOfRefusedRuns(t *testing.T) {
	for _, kind := range kinds {
		x := turns.New()
		load(t, x, 0, `fn f() { out 1; return 1 + nil; }`, 9, kind)
		load(t, x, 1, `fn f() { while true { out 1; } }`, 9, kind)
		load(t, x, 2, `let s; fn f() { s = "abcdefgh"; while true { s = s + s; } }`, 9, kind)
		load(t, x, 3, `fn f() { return f(); }`, 9, kind)
		load(t, x, 4, `fn f() { for i in 0..3 { } return 3; }`, 9, kind)
		for id := range 5 {
			start(t, x, id, "f", 8+200*int64(id/2))
		}
		wantGo(t, x, []int{1, 1, 1, 1, 1}, []int{0, 1, 2, 3, 4}, 5)
		wantLeft(t, x, 0, 1, 2, 3, 4)
		wantGo(t, x, []int{2, 999, 2, 127, 2}, []int{0, 1, 2, 3, 4}, 2+7+2+127+2)
		wantLeft(t, x, 0, 2, 3, 4)
		wantGo(t, x, []int{999, 999, 999, 999, 999}, []int{0, 1, 2, 3, 4}, 0+0+6+0+4)
		wantLeft(t, x)
		wantEnd(t, x, 0, api.End{Code: api.ErrType, At: 25, Ticks: 3, Out: []string{"1"}})
		wantEnd(t, x, 1, api.End{Code: api.ErrFuel, At: 9, Ticks: 8, Out: []string{"1", "1", "1"}})
		wantEnd(t, x, 3, api.End{Code: api.ErrDepth, At: 16, Ticks: 128})
		wantEnd(t, x, 4, api.End{Ticks: 7, Value: whole(3)})
		if end, _ := x.End(2); end.Code != api.ErrMemory {
			t.Error(end)
		}
	}
}
