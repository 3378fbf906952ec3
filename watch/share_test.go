package watch_test

import (
	"slices"
	"testing"

	"casket/api"
	"casket/watch"
)

// R3: what is handed in is neither changed nor kept; what is answered is new, and shares nothing with what is kept. R4: machines do not hang on one another.

// sticky writes over the arguments that it is handed, and behind them.
type sticky struct{ script }

func (s *sticky) Start(name string, args []api.Raw, fuel int64) api.Errno {
	e := s.script.Start(name, args, fuel)
	for i := range args {
		args[i] = text("written over")
	}
	_ = append(args, text("written behind"))
	return e
}

func newSticky() *sticky { return &sticky{*written(at(1, 2))} }

func TestArgumentsAreApart(t *testing.T) {
	room := raws(whole(1), text("two"), text("behind"))
	want := slices.Clone(room)
	watch.Profile(newSticky(), "f", room[:2], 9)
	a, b := newSticky(), newSticky()
	watch.Apart(a, b, "f", room[:2], 9)
	if !slices.Equal(room, want) {
		t.Error("changed:", room)
	}
	if (*a.log)[0] != (*b.log)[0] {
		t.Error("b was handed what a has made of it:", (*a.log)[0], (*b.log)[0])
	}
	for _, kind := range kinds { // what is written over later changes nothing
		m := open(t, "fn f(a, b) { out a; out b; return b; }", 9, kind)
		twin := open(t, "fn f(a) { return a; }", 9, kind)
		wantNoApart(t, m, twin, "f", room[:2], 9, api.ErrCount)
		clear(room)
		if x := byHand(t, m); !slices.Equal(x.end.Out, []string{"1", "two"}) {
			t.Error(x.end.Out)
		}
		copy(room, want)
	}
}

// The places: what lies behind the list's end is neither read nor written.
func TestPlacesAreApart(t *testing.T) {
	for _, kind := range kinds {
		room := []int{77, 25, 9, 3, 9}
		x := traced(t, example, kind, plenty)
		m := begun(t, example, kind)
		wantUntil(t, m, room[:2], x, 4)
		wantUntil(t, m, room[:2], x, 6)
		wantUntil(t, m, room[:1], x, len(x.states)+1)
		if !slices.Equal(room, []int{77, 25, 9, 3, 9}) {
			t.Error("changed:", room)
		}
	}
}

// What is answered may be written over and grown: a machine keeps what it has, its spare room, too.
func TestAnswersAreApart(t *testing.T) {
	x := model()
	vars := x.states[1].Vars
	x.states[0].Vars, x.states[1].Vars, x.states[2].Vars = vars[:1], vars[:2], vars[:3]
	x.end.Out = append(make([]string, 0, 9), "x", "y")
	m := written(x)
	start(t, m, "f", 9)
	first, _ := watch.Until(m, []int{3})
	second, _ := watch.Until(m, []int{9})
	third, ok := watch.Over(m)
	for _, s := range []api.State{first, second, third} {
		clear(s.Vars)
		_ = append(s.Vars, text("grown"))
	}
	if !ok || !slices.Equal(vars, model().states[1].Vars) {
		t.Error("the machine's variables are now", vars)
	}
	watch.Until(m, nil)
	for range 2 {
		counts, end, e := watch.Profile(m, "f", nil, 9)
		if e != api.OK || !slices.Equal(counts, []api.Count{{At: 3, N: 1}, {At: 9, N: 2}}) || !slices.Equal(end.Out, []string{"x", "y"}) {
			t.Error(counts, short(end))
		}
		clear(counts)
		clear(end.Out)
		_ = append(end.Out, "grown")
	}
	if kept := x.end.Out; !slices.Equal(kept[:3], []string{"x", "y", ""}) {
		t.Error("the machine's lines are now", kept[:3])
	}
}

// The same of casket's own machines; and what was answered is not changed by what is done behind it.
func TestAnswersStay(t *testing.T) {
	for _, kind := range kinds {
		x := traced(t, winding, kind, plenty, whole(3))
		m := begun(t, winding, kind, whole(3))
		one, _ := watch.Until(m, []int{73})
		two, _ := watch.Until(m, []int{89})
		three, _ := watch.Over(m)
		wantRest(t, m, x, int(three.Ticks))
		counts, end, _ := watch.Profile(m, "f", raws(whole(3)), plenty)
		for _, s := range []api.State{one, two, three} {
			if !sameState(s, x.states[s.Ticks-1]) {
				t.Error("the answer is now", short(s))
			}
			clear(s.Vars)
		}
		again, endAgain, _ := watch.Profile(m, "f", raws(whole(3)), plenty)
		clear(again)
		clear(endAgain.Out)
		if !slices.Equal(counts, x.counts()) || !sameEnd(end, x.end) {
			t.Error("the answers are now", counts, short(end))
		}
		if kept, ok := m.End(); !ok || !sameEnd(kept, x.end) {
			t.Error("the machine's End is now", short(kept))
		}
	}
}

// Several machines are watched in turns: each goes its own way.
func TestMachinesAreApart(t *testing.T) {
	x, y := traced(t, example, tree, plenty), traced(t, winding, tree, plenty, whole(2))
	for _, first := range kinds {
		for _, second := range kinds {
			a, b := begun(t, example, first), begun(t, winding, second, whole(2))
			toA, toB := 0, 0
			for toA <= len(x.states) || toB <= len(y.states) {
				if toA <= len(x.states) {
					toA, _ = x.until(toA, []int{25, 9})
					wantUntil(t, a, []int{25, 9}, x, toA)
				}
				wantProfile(t, open(t, example, 9, second), "f", nil, plenty, x.counts(), x.end)
				if toB <= len(y.states) {
					toB, _ = y.until(toB, []int{10, 25})
					wantUntil(t, b, []int{10, 25}, y, toB)
				}
			}
		}
	}
}
