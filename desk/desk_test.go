package desk_test

import (
	"math"
	"slices"
	"strings"
	"testing"

	"casket/api"
	"casket/desk"
)

// What the machines' own tests ask of chapter 15 goes through the desk; these are its parts, each for itself.

func open(t *testing.T, src string, units int) *desk.Desk {
	t.Helper()
	d, l, fault := desk.Open(src, units)
	if fault.Code != api.OK || len(l) == 0 {
		t.Fatalf("Open(%q, %d): %v", src, units, fault)
	}
	return &d
}

// script is a run that makes so many ticks, and ends with a value.
type script struct {
	desk.Tally
	left  int
	value uint64
}

func (s *script) GoOn() bool {
	s.left--
	return s.left >= 0 && s.Tick(s.left)
}

func (s *script) State() api.State { return s.Made() }

func (s *script) End() (api.End, uint64) { return s.Ended(), s.value }

func TestNames(t *testing.T) {
	d := open(t, "let g; fn f(a, b) { } let h; fn k() { let x = 1; }", 9)
	if d.Names.Params["f"] != 2 || d.Names.Params["k"] != 0 || len(d.Names.Params) != 2 {
		t.Error(d.Names.Params)
	}
	if d.Names.Globals["g"] != 0 || d.Names.Globals["h"] != 1 || len(d.Names.Globals) != 2 {
		t.Error(d.Names.Globals)
	}
	if !slices.Equal(d.Memory.Globals, []uint64{d.Memory.Null(), d.Memory.Null()}) {
		t.Error(d.Memory.Globals)
	}
	if _, _, fault := desk.Open("fn", -1); fault != (api.Fault{Code: api.ErrArg}) {
		t.Error(fault)
	}
	if _, l, fault := desk.Open("fn", 1); fault != (api.Fault{Code: api.ErrSyntax, At: 2}) || len(l) != 0 {
		t.Error(fault)
	}
}

// A run goes from tick to tick, and its value goes out at its end.
func TestRun(t *testing.T) {
	d := open(t, "fn f() { }", 9)
	for round := range 3 {
		if e := d.Take("f", nil, 9); e != api.OK {
			t.Fatal(e)
		}
		d.Begin(&script{Tally: desk.NewTally(9), left: 4, value: d.Memory.Null()})
		if e := d.Take("f", nil, 9); e != api.ErrState {
			t.Error(e)
		}
		if _, ok := d.State(); ok {
			t.Error("State ahead of the first tick")
		}
		if _, ok := d.End(); ok {
			t.Error("End in a run")
		}
		for s := range d.Steps() {
			if s.Ticks == 2 {
				break
			}
		}
		if s, ok := d.State(); !ok || s.Ticks != 2 || s.At != 2 {
			t.Error(s, ok)
		}
		if round == 0 {
			for d.Step() {
			}
		}
		if end := d.Finish(); end.Code != api.OK || end.Ticks != 4 {
			t.Error(end)
		}
		if d.Step() {
			t.Error("Step behind the end")
		}
	}
}

func TestTally(t *testing.T) {
	tally := desk.NewTally(2)
	if !tally.Tick(5) || !tally.Tick(6) || tally.Tick(7) {
		t.Error("there is fuel for two ticks")
	}
	if end := tally.Ended(); end.Code != api.ErrFuel || end.At != 7 || end.Ticks != 2 {
		t.Error(end)
	}
	if s := tally.Made(); s.At != 6 || s.Ticks != 2 {
		t.Error(s)
	}
	line := strings.Repeat("x", api.MaxOut-3)
	for _, x := range []struct {
		line string
		want api.Errno
	}{{strings.Repeat("x", api.MaxOut), api.ErrOut}, {line, api.OK}, {"xx", api.ErrOut}, {"x", api.OK}, {"", api.ErrOut}} {
		if e := tally.Tell(x.line); e != x.want {
			t.Errorf("a line of %d bytes: %d", len(x.line), e)
		}
	}
	if end := tally.Ended(); !slices.Equal(end.Out, []string{line, "x"}) {
		t.Error(len(end.Out))
	}
}

func TestBounds(t *testing.T) {
	m := &open(t, "", 99).Memory
	box := func(v api.Value) uint64 {
		w, e := m.Box(v)
		if e != api.OK {
			t.Fatal(e)
		}
		m.Stack = append(m.Stack, w)
		return w
	}
	whole := func(i int64) uint64 { return box(api.Value{Kind: api.Int, Int: i}) }
	for _, x := range []struct {
		from, to uint64
		want     api.Errno
	}{
		{whole(-1 << 47), whole(1<<47 - 1), api.OK},
		{whole(0), whole(1 << 47), api.ErrRange},
		{whole(-1<<47 - 1), whole(0), api.ErrRange},
		{whole(math.MinInt64), m.Null(), api.ErrType},
		{box(api.Value{Kind: api.Float}), whole(1), api.ErrType},
	} {
		i, end, e := m.Bounds(x.from, x.to)
		if e != x.want || e == api.OK && (i != -1<<47 || end != 1<<47-1) || e != api.OK && (i != 0 || end != 0) {
			t.Errorf("%d, %d, %d; want %d", i, end, e, x.want)
		}
	}
	for kind, want := range map[int]bool{api.Bool: true, api.Nil: false, api.Int: false, api.Text: false} {
		if truth, ok := m.Truth(box(api.Value{Kind: kind})); truth || ok != want {
			t.Errorf("kind %d: %v, %v", kind, truth, ok)
		}
	}
}
