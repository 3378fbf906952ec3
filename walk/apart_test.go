package walk_test

import (
	"math/rand"
	"slices"
	"testing"

	"casket/api"
	"casket/walk"
)

// R3: what is handed in is neither changed nor kept; what is answered shares nothing with what is kept. R4: machines do not hang on one another.

// What was answered may be written over.
func TestAnswersAreApart(t *testing.T) {
	m := load(t, `fn f(a) { let b = "b"; out a; out b; }`, plenty)
	start(t, m, "f", 9, whole(1))
	var first []api.State
	for s := range m.Steps() {
		was := s
		was.Vars = slices.Clone(s.Vars)
		wantState(t, m, was)
		grown := append(s.Vars, text("grown"))
		other, _ := m.State()
		_ = append(other.Vars, text("other"))
		if grown[len(s.Vars)] != text("grown") {
			t.Error("two states share their room")
		}
		clear(s.Vars)
		clear(other.Vars)
		wantState(t, m, was)
		first = append(first, was)
	}
	want := api.End{Ticks: 4, Out: []string{"1", "b"}}
	for range 2 {
		end, _ := m.End()
		other, _ := m.End()
		grown := append(end.Out, "grown")
		_ = append(other.Out, "other")
		if grown[len(end.Out)] != "grown" {
			t.Error("two ends share their room")
		}
		clear(end.Out)
		clear(other.Out)
		wantEnded(t, m, want)
	}
	end := run(t, m, "f", whole(1))
	clear(end.Out)
	wantEnded(t, m, want)
	if len(first) != 4 {
		t.Error(first)
	}
}

// What was answered is not changed by what is done behind it.
func TestAnswersStay(t *testing.T) {
	m := load(t, `let g; fn f(n) { let b = n; out b; b = b + 1; out b; g = row(b); return g; }`, plenty)
	start(t, m, "f", 9, whole(1))
	var states, copies []api.State
	for s := range m.Steps() {
		states = append(states, s)
		s.Vars = slices.Clone(s.Vars)
		copies = append(copies, s)
	}
	end, _ := m.End()
	out := slices.Clone(end.Out)
	raw, _ := m.Global("g")
	was := raw
	wantPoke(t, m, 0, 0, text("new"), api.OK)
	wantSet(t, m, "g", null, api.OK)
	wantRelease(t, m, 0, api.OK)
	for n := range int64(3) {
		run(t, m, "f", whole(n+100))
	}
	if !slices.EqualFunc(states, copies, sameState) {
		t.Errorf("%v, then %v", copies, states)
	}
	if !slices.Equal(end.Out, out) || end.Value != thing(api.Row, 0, 2) || raw != was {
		t.Errorf("%v, %v", end, raw)
	}
}

// What is handed in is not changed, nor looked at later, its room neither.
func TestArgumentsHandedIn(t *testing.T) {
	m := load(t, "fn f(a, b, c) { out a; out b; out c; return a; }", plenty)
	full := raws(text("abcdefgh"), whole(1<<50), text("c"), text("room"), api.Raw{Kind: 99})
	was := slices.Clone(full)
	start(t, m, "f", 9, full[:3]...)
	if e := m.Start("f", full[:3], 9); e != api.ErrState {
		t.Error(e)
	}
	if !slices.Equal(full, was) {
		t.Error("the arguments were changed")
	}
	clear(full)
	for m.Step() {
	}
	wantEnded(t, m, api.End{Ticks: 5, Value: text("abcdefgh"), Out: []string{"abcdefgh", "1125899906842624", "c"}})
	copy(full, was)
	wantNoStart(t, m, "f", full[:2], 9, api.ErrCount)
	wantNoStart(t, m, "f", full[2:], 9, api.ErrArg)
	if !slices.Equal(full, was) {
		t.Error("the arguments were changed")
	}
}

// Nil and empty lists are one.
func TestNoArguments(t *testing.T) {
	m := load(t, "fn f() { return 1; }", plenty)
	for _, args := range [][]api.Raw{nil, {}} {
		if end, e := m.Run("f", args, 9); e != api.OK || end.Value != whole(1) {
			t.Error(end, e)
		}
	}
}

// Machines one beside the other, of one source and of several, each in its own step.
func TestMachinesAreApart(t *testing.T) {
	type runner struct {
		m    *walk.Machine
		told report
		n    int
	}
	var list []*runner
	for seed := range int64(60) {
		src := drawn(seed / 2) // two of each
		args := drawnArgs(rand.New(rand.NewSource(seed / 2)))
		m := load(t, src, plenty)
		start(t, m, "f", plenty, args...)
		list = append(list, &runner{m: m, told: newModel(t, src, plenty).run("f", args, plenty)})
	}
	c := rand.New(rand.NewSource(1))
	for left := len(list); left > 0; {
		x := list[c.Intn(len(list))]
		if x.n > len(x.told.states) {
			continue
		}
		ok := x.m.Step()
		if x.n == len(x.told.states) {
			left--
			x.n++
			if ok {
				t.Error("a step too many")
			}
			wantEnded(t, x.m, x.told.end)
			continue
		}
		if s, has := x.m.State(); !ok || !has || !sameState(s, x.told.states[x.n]) || x.m.Reach() != x.told.reach[x.n] {
			t.Fatalf("%v, %v; want %v", s, has, x.told.states[x.n])
		}
		x.n++
	}
}

// Numbers, globals and things of one machine are none of another one's.
func TestMachinesShareNothing(t *testing.T) {
	src := "let g; fn mk() { g = row(1); return g; }"
	one, other := load(t, src, 4), load(t, src, 4)
	for range 2 {
		if got := value(t, one, "mk"); got.Kind != api.Row {
			t.Error(got)
		}
	}
	wantGlobal(t, other, "g", null)
	wantReach(t, other, 0)
	wantNoPeek(t, other, 0, 0, api.ErrRef)
	if got := value(t, other, "mk"); got != thing(api.Row, 0, 1) {
		t.Error(got)
	}
	wantPoke(t, other, 0, 0, whole(5), api.OK)
	wantPeek(t, one, 0, 0, null)
	wantRelease(t, one, 0, api.OK)
	wantPeek(t, other, 0, 0, whole(5))
	start(t, one, "mk", 9)
	wantGlobal(t, other, "g", thing(api.Row, 0, 1))
}

// A run is the same however it is gone through, and however often.
func TestRunAgain(t *testing.T) {
	for seed := range int64(200) {
		src := drawn(seed)
		args := drawnArgs(rand.New(rand.NewSource(seed)))
		ways := []func(m *walk.Machine) int{
			func(m *walk.Machine) int {
				end, _ := m.Run("f", args, 300)
				return int(end.Ticks)
			},
			func(m *walk.Machine) int {
				m.Start("f", args, 300)
				n := 0
				for m.Step() {
					n++
				}
				return n
			},
			func(m *walk.Machine) int {
				m.Start("f", args, 300)
				n := 0
				for range m.Steps() {
					n++
				}
				return n
			},
			func(m *walk.Machine) int {
				m.Start("f", args, 300)
				n := 0
				for more := true; more; {
					more = false
					for range m.Steps() {
						n++
						if more = true; n%3 == 0 {
							break
						}
					}
				}
				return n
			},
		}
		var first api.End
		for i, way := range ways {
			m := load(t, src, 60)
			n := way(m)
			end, ok := m.End()
			if i == 0 {
				first = end
			}
			if !ok || !sameEnd(end, first) || int64(n) != end.Ticks {
				t.Errorf("seed %d, way %d: %d ticks, %v; the first way: %v", seed, i, n, end, first)
			}
		}
	}
}
