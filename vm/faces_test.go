package vm_test

import (
	"slices"
	"strings"
	"testing"

	"casket/api"
	"casket/vm"
	"casket/walk"
)

// Promise 16.1: what is asked ahead of runs, between and within them, of both machines.

func TestNewRefuses(t *testing.T) {
	for _, src := range []string{"", "fn", "fn f() { x; }", "fn f() { }", "fn f() { f(1); }", "\"", strings.Repeat(" ", api.MaxSource+1), "fn f() { " + many(api.MaxRegs, "let v# = 0; ") + "}"} {
		for _, units := range []int{-1 << 63, -1, 0, 1, api.MaxUnits, api.MaxUnits + 1, 1<<63 - 1} {
			m, got := vm.New(src, units)
			tree, want := walk.New(src, units)
			if got != want || (m == nil) != (tree == nil) || (m == nil) != (got.Code != api.OK) {
				t.Errorf("New(%.40q, %d): %v; the tree machine: %v", src, units, got, want)
			}
		}
	}
	if _, got := vm.New("fn f() { x; }", plenty); got != (api.Fault{Code: api.ErrName, At: 9}) {
		t.Error(got)
	}
}

// wrongs are raw values of which most are not right.
func wrongs() []api.Raw {
	list := raws(null, truth(true), api.Raw{Kind: api.Bool, Int: 2}, whole(1), whole(1<<60), double(one), double(0xfff8000000000001),
		text("a"), text(filler(100)), api.Raw{Kind: api.Int, Bits: 1}, api.Raw{Kind: api.Text, Int: 1}, api.Raw{Int: 1},
		api.Raw{Kind: api.Int, Ref: 1}, api.Raw{Kind: api.Float, Text: "x"}, api.Raw{Kind: -1}, api.Raw{Kind: 99}, api.Raw{Kind: api.Int, Len: 5})
	for kind := api.F64; kind <= api.Row; kind++ {
		for _, ref := range []int{-1, 0, 1, 2} {
			list = append(list, api.Raw{Kind: kind, Ref: ref}, api.Raw{Kind: kind, Ref: ref, Len: 99}, api.Raw{Kind: kind, Ref: ref, Int: 1})
		}
	}
	return list
}

// Start's errors, in their order.
func TestStartRefuses(t *testing.T) {
	for _, units := range []int{0, 10, 14, 30, plenty} {
		b := pair(t, "let g; fn f(a, b) { return a; } fn mk() { return row(2); } fn u() { return u8(3); }", units)
		b.start("mk", 9)
		b.rest()
		b.start("u", 9)
		b.rest()
		for _, name := range []string{"f", "g", "row", "", "x"} {
			for _, fuel := range []int64{-1 << 63, -1, 0, 9, api.MaxFuel, api.MaxFuel + 1} {
				for n := range 4 {
					b.start(name, fuel, make([]api.Raw, n)...)
					b.rest()
				}
			}
		}
		for _, x := range wrongs() {
			for _, y := range raws(whole(1), text(filler(60)), api.Raw{Kind: 99}, thing(api.Row, 0, 2), thing(api.U8, 1, 7)) {
				b.start("f", 9, x, y)
				b.rest()
				b.start("f", 9, y, x)
				b.rest()
			}
		}
		if t.Failed() {
			t.Fatalf("with %d units", units)
		}
	}
}

// Globals, elements and references between runs; while one is under way none of them.
func TestBetweenRuns(t *testing.T) {
	src := "let g; let k; fn f(a, b) { g = a; k = b; return a; } fn mk(n) { return row(n); } fn u() { return u8(5); }"
	for _, units := range []int{0, 4, 9, 12, 20, plenty} {
		b := pair(t, src, units)
		asked := func() {
			t.Helper()
			for _, name := range []string{"g", "k", "f", "x", ""} {
				b.global(name)
			}
			for _, r := range wrongs() {
				for _, name := range []string{"g", "k", "x"} {
					b.setGlobal(name, r)
				}
				for ref := -1; ref < 4; ref++ {
					for _, i := range []int64{-1, 0, 1, 4, 5, 1 << 40} {
						b.poke(ref, i, r)
						b.peek(ref, i)
					}
				}
			}
		}
		asked()
		for round := range 3 {
			b.start("mk", 9, whole(2))
			asked()
			b.release(0)
			b.rest()
			b.start("u", 9)
			b.rest()
			asked()
			b.start("f", 9, thing(api.Row, 0, 0), whole(1<<60))
			b.rest()
			for ref := -1; ref < 3+round; ref++ {
				if (ref+round)%2 == 0 {
					b.release(ref)
				}
			}
			asked()
		}
		if t.Failed() {
			t.Fatalf("with %d units", units)
		}
	}
}

// A text that no cell could hold is refused ahead of what stands behind it.
func TestTooLong(t *testing.T) {
	b := pair(t, "let g; fn f(a, b) { }", plenty)
	long := text(filler(api.MaxBytes + 1))
	if e := b.start("f", 9, long, api.Raw{Kind: 99}); e != api.ErrLong {
		t.Error(e)
	}
	if e := b.start("f", 9, api.Raw{Kind: 99}, long); e != api.ErrArg {
		t.Error(e)
	}
	if e := b.setGlobal("g", long); e != api.ErrLong {
		t.Error(e)
	}
}

// Things go out by numbers, the same one as long as it is held.
func TestReferences(t *testing.T) {
	b := pair(t, "let g; fn f(a) { if a == nil { g = row(2); g[0] = row(1); return g; } return a; }", plenty)
	first, _ := b.through(9, null)
	if first.Value != thing(api.Row, 0, 2) {
		t.Error(first)
	}
	if again, _ := b.through(9, thing(api.Row, 0, 77)); again.Value != thing(api.Row, 0, 2) {
		t.Error(again)
	}
	if r, _ := b.peek(0, 0); r != thing(api.Row, 1, 1) {
		t.Error(r)
	}
	b.release(0)
	if r, _ := b.global("g"); r != thing(api.Row, 2, 2) {
		t.Error(r)
	}
	if e := b.start("f", 9, thing(api.Row, 0, 2)); e != api.ErrRef {
		t.Error(e)
	}
	if b.same(); b.regs.Reach() != 5 {
		t.Errorf("Reach is %d", b.regs.Reach())
	}
}

// A machine that New has not made has no function, no global and no site.
func TestZeroMachine(t *testing.T) {
	var m vm.Machine
	if e := m.Start("f", nil, 1); e != api.ErrFunc {
		t.Error(e)
	}
	if _, e := m.Run("f", nil, 1); e != api.ErrFunc {
		t.Error(e)
	}
	_, state := m.State()
	_, end := m.End()
	if m.Step() || state || end || m.Reach() != 0 {
		t.Error("a run")
	}
	for range m.Steps() {
		t.Error("a step")
	}
	_, name := m.Global("g")
	_, ref := m.Peek(0, 0)
	if name != api.ErrName || ref != api.ErrRef || m.SetGlobal("g", null) != api.ErrName || m.Poke(0, 0, null) != api.ErrRef || m.Release(0) != api.ErrRef {
		t.Error("something is there")
	}
	_, code := m.Code("f")
	_, regs := m.Regs("f")
	if code != api.ErrFunc || regs != api.ErrFunc || len(m.Sites()) != 0 || m.Force(0, api.Generic) != api.ErrSite {
		t.Error("something is there")
	}
}

// R3: what was answered may be written over, and is not changed by what is done behind it.
func TestAnswersAreApart(t *testing.T) {
	src := "fn f(a) { let b = a + 1; out a; out b; return b * b; }"
	m := load(t, src, plenty)
	for round := range 8 {
		sites, code := m.Sites(), codeOf(t, m, "f")
		wasSites, wasCode := slices.Clone(sites), slices.Clone(code)
		start(t, m, "f", 9, whole(int64(round)))
		for s := range m.Steps() {
			was := s
			was.Vars = slices.Clone(s.Vars)
			grown := append(s.Vars, text("grown"))
			other, _ := m.State()
			_ = append(other.Vars, text("other"))
			clear(s.Vars)
			clear(other.Vars)
			if now, _ := m.State(); !sameState(now, was) || grown[len(was.Vars)] != text("grown") {
				t.Errorf("%v; want %v", now, was)
			}
		}
		wantForce(t, m, round%2, forms[round%3], api.OK)
		if !slices.Equal(sites, wasSites) || !slices.Equal(code, wasCode) {
			t.Errorf("round %d: what was answered has changed", round)
		}
		wantApart(t, m)
	}
}

// wantApart writes over what a machine answers, behind its length too.
func wantApart(t *testing.T, m *vm.Machine) {
	t.Helper()
	sites, code := m.Sites(), codeOf(t, m, "f")
	end, _ := m.End()
	lines := slices.Clone(end.Out)
	otherSites, otherCode := m.Sites(), codeOf(t, m, "f")
	otherEnd, _ := m.End()
	clear(otherSites[:cap(otherSites)])
	clear(otherCode[:cap(otherCode)])
	clear(otherEnd.Out[:cap(otherEnd.Out)])
	if now, _ := m.End(); !slices.Equal(m.Sites(), sites) || !slices.Equal(codeOf(t, m, "f"), code) || !slices.Equal(now.Out, lines) || !slices.Equal(end.Out, lines) {
		t.Error("what is answered is what is kept")
	}
}

// R3: what is handed in is not changed, and not looked at later.
func TestArgumentsHandedIn(t *testing.T) {
	m := load(t, "fn f(a, b) { out a; out b; a = 5; b = a; return a; }", plenty)
	full := raws(text("abcdefgh"), whole(1<<50), text("room"))
	was := slices.Clone(full)
	start(t, m, "f", 9, full[:2]...)
	if !slices.Equal(full, was) {
		t.Error("the arguments were changed")
	}
	clear(full)
	for m.Step() {
	}
	if end, _ := m.End(); !sameEnd(end, api.End{Ticks: 6, Value: whole(5), Out: []string{"abcdefgh", "1125899906842624"}}) {
		t.Error(end)
	}
}

// R4: machines one beside the other, of one source, each in its own step: runs, sites and forms of one are none of another one's.
func TestMachinesAreApart(t *testing.T) {
	x := numbers()[7]
	alone := load(t, x.src, plenty)
	want := run(t, alone, "f", x.args...)
	list := make([]*vm.Machine, 4)
	for i := range list {
		list[i] = load(t, x.src, plenty)
		start(t, list[i], "f", plenty, x.args...)
	}
	for more := true; more; {
		more = false
		for i, m := range list {
			for range i + 1 {
				more = m.Step() || more
			}
			if i > 0 {
				for n := range m.Sites() {
					wantForce(t, m, n, forms[i-1], api.OK)
				}
			}
		}
	}
	for i, m := range list {
		if end, _ := m.End(); !sameEnd(end, want) {
			t.Errorf("machine %d: %v; want %v", i, end, want)
		}
	}
	wantSites(t, list[0], alone.Sites()...)
	if slices.Equal(list[1].Sites(), alone.Sites()) {
		t.Error("forced, and still the same")
	}
	wantSites(t, load(t, x.src, plenty), load(t, x.src, 0).Sites()...)
}
