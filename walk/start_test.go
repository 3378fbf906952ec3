package walk_test

import (
	"math"
	"testing"

	"casket/api"
)

// Promise 15.6.

const starters = "let g; fn f(a, b) { g = a; return b; } fn none() { return g; } fn sixteen(a, b, c, d, e, h, i, j, k, l, m, n, o, p, q, r) { return r; }"

func TestStarted(t *testing.T) {
	m := load(t, starters, plenty)
	start(t, m, "f", 9, whole(1), text("two"))
	wantNoEnd(t, m)
	if s, ok := m.State(); ok || !sameState(s, api.State{}) {
		t.Error("a state ahead of the first tick: ", s)
	}
	var list []api.Raw
	for i := range int64(16) {
		list = append(list, whole(i))
	}
	for m.Step() {
	}
	wantEnded(t, m, api.End{Ticks: 3, Value: text("two")})
	wantGlobal(t, m, "g", whole(1))
	if got := value(t, m, "sixteen", list...); got != whole(15) {
		t.Error(got)
	}
	if got := value(t, m, "none"); got != whole(1) {
		t.Error(got)
	}
}

func TestStartOfNoFunction(t *testing.T) {
	m := load(t, starters, plenty)
	for _, name := range []string{"", "g", "a", "F", "f ", "row", "len", "fn", "main", filler(99)} {
		wantNoStart(t, m, name, nil, 9, api.ErrFunc)
		wantNoStart(t, m, name, raws(whole(1)), 9, api.ErrFunc)
	}
}

func TestStartCounts(t *testing.T) {
	m := load(t, starters, plenty)
	for n := range 20 {
		list := make([]api.Raw, n)
		for _, x := range []struct {
			name   string
			params int
		}{{"none", 0}, {"f", 2}, {"sixteen", 16}} {
			if n != x.params {
				wantNoStart(t, m, x.name, list, 9, api.ErrCount)
			} else if end := run(t, m, x.name, list...); end.Code != api.OK {
				t.Error(x.name, end)
			}
		}
	}
}

func TestStartFuel(t *testing.T) {
	m := load(t, starters, plenty)
	for _, fuel := range []int64{math.MinInt64, -1 << 32, -1, api.MaxFuel + 1, 1 << 62, math.MaxInt64} {
		wantNoStart(t, m, "none", nil, fuel, api.ErrRange)
	}
	for _, fuel := range []int64{0, 1, 2, 1 << 31, 1 << 32, api.MaxFuel - 1, api.MaxFuel} {
		end, e := m.Run("none", nil, fuel)
		if e != api.OK || end.Ticks != min(fuel, 2) {
			t.Errorf("fuel %d: %v, %d", fuel, end, e)
		}
	}
}

// Each error goes ahead of the next one.
func TestStartErrorsInOrder(t *testing.T) {
	m := load(t, starters, 4)
	odd := api.Raw{Kind: 99}
	long, room, far := text(filler(api.MaxBytes+1)), text(filler(99)), thing(api.Row, 0, 0)
	wantNoStart(t, m, "x", raws(odd), -1, api.ErrFunc)
	wantNoStart(t, m, "f", raws(odd), -1, api.ErrCount)
	wantNoStart(t, m, "f", raws(odd, odd, odd), -1, api.ErrCount)
	wantNoStart(t, m, "f", raws(odd, far), -1, api.ErrRange)
	wantNoStart(t, m, "f", raws(room, odd), -1, api.ErrRange)
	wantNoStart(t, m, "f", raws(odd, far), 9, api.ErrArg)
	wantNoStart(t, m, "f", raws(far, odd), 9, api.ErrRef)
	wantNoStart(t, m, "f", raws(long, odd), 9, api.ErrLong)
	wantNoStart(t, m, "f", raws(null, long), 9, api.ErrLong)
	wantNoStart(t, m, "f", raws(room, odd), 9, api.ErrArg) // all are right, ahead of room for one
	wantNoStart(t, m, "f", raws(room, api.Raw{Kind: api.Bool, Int: 2}), 9, api.ErrArg)
	wantNoStart(t, m, "f", raws(room, far), 9, api.ErrRef)
	wantNoStart(t, m, "f", raws(room, long), 9, api.ErrLong)
	wantNoStart(t, m, "f", raws(room, null), 9, api.ErrMemory)
	wantNoStart(t, m, "f", raws(null, room), 9, api.ErrMemory)
	wantNoStart(t, m, "f", raws(text(filler(9)), text(filler(8))), 9, api.ErrMemory)
	wantNoEnd(t, m)
	wantIdle(t, m)
	wantReach(t, m, 0)
	if got := value(t, m, "f", text(filler(8)), text(filler(8))); got != text(filler(8)) {
		t.Error(got)
	}
	start(t, m, "none", 9)
	wantNoStart(t, m, "none", nil, 9, api.ErrState)
	wantNoStart(t, m, "x", raws(odd), -1, api.ErrState)
}

// A start that is refused leaves the end of the run ahead of it, and a run under way as it is.
func TestStartRefusedChangesNothing(t *testing.T) {
	m := load(t, starters, 4)
	value(t, m, "f", whole(1), whole(2))
	last := api.End{Ticks: 3, Value: whole(2)}
	wantNoStart(t, m, "x", nil, 9, api.ErrFunc)
	wantEnded(t, m, last)
	wantNoStart(t, m, "f", raws(text(filler(8)), text(filler(99))), 9, api.ErrMemory)
	wantEnded(t, m, last)
	wantReach(t, m, 0)
	start(t, m, "f", 9, whole(3), whole(4))
	for range 3 {
		m.Step()
		was, _ := m.State()
		wantNoStart(t, m, "f", raws(whole(5), whole(6)), 9, api.ErrState)
		if s, ok := m.State(); !ok || !sameState(s, was) {
			t.Errorf("%v, then %v", was, s)
		}
	}
	if m.Step() {
		t.Error("a fourth step")
	}
	wantEnded(t, m, api.End{Ticks: 3, Value: whole(4)})
	wantGlobal(t, m, "g", whole(3))
}
