package image_test

import (
	"fmt"
	"slices"
	"testing"

	"casket/api"
	"casket/vm"
	"casket/walk"
)

// Promise 20.6 and W11, and W8 of what a loaded heap has room for.

// No run has ended yet, and none is under way.
func TestLoadedHasNoRun(t *testing.T) {
	p := play(t, maker, 99)
	p.run("add", whole(1), whole(2))
	j := load(t, save(t, p.Machine))
	if end, ok := j.End(); ok || !sameEnd(end, api.End{}) {
		t.Error(end, ok)
	}
	if s, ok := j.State(); ok || s.Ticks != 0 {
		t.Error(s, ok)
	}
	if j.Step() {
		t.Error("there is a run")
	}
	for range j.Steps() {
		t.Error("there is a run")
	}
}

func sameEnd(a, b api.End) bool {
	return a.Code == b.Code && a.At == b.At && a.Ticks == b.Ticks && a.Value == b.Value && slices.Equal(a.Out, b.Out)
}

// A loaded heap has room for just what is left of the units, whatever lay in the saved one beside what is reached.
func TestLoadedRoom(t *testing.T) {
	src := "let g; fn keep(n) { g = row(n); } fn waste(n) { for i in 0..n { row(3); } } fn ask(n) { return len(row(n)); }"
	const units = 60
	for kept := range int64(units) {
		for _, waste := range []int64{0, 3, 50} {
			p := play(t, src, units)
			p.run("keep", whole(kept))
			if kept+1+4 <= units {
				p.run("waste", whole(waste))
			}
			j := load(t, save(t, p.Machine))
			if j.Reach() != int(kept)+1 {
				t.Fatalf("%d units are reached", j.Reach())
			}
			left := units - (kept + 1)
			for _, n := range []int64{left - 1, left} { // a row of n words needs one unit more
				if n < 0 {
					continue
				}
				want := api.OK
				if n+1 > left {
					want = api.ErrMemory
				}
				for _, m := range []*vm.Machine{p.Machine, j} {
					if end, e := m.Run("ask", []api.Raw{whole(n)}, 9); e != api.OK || end.Code != want {
						t.Fatalf("%d kept, a row of %d: %d, %d; want %d", kept, n, end.Code, e, want)
					}
				}
			}
		}
	}
}

// What a view and its buffer have in common they have in common behind it.
func TestLoadedViews(t *testing.T) {
	p := play(t, maker, 99)
	buffer := p.run("u8_", whole(16))
	first := p.run("view_", buffer, text("i16"), whole(2), whole(4))
	second := p.run("view_", first, text("u8"), whole(1), whole(2))
	j := &player{t, load(t, save(t, p.Machine))}
	j.poke(first, 0, whole(258))
	for at, want := range []int64{0, 0, 2, 1, 0} {
		if r, e := j.Peek(buffer.Ref, int64(at)); r != whole(want) || e != api.OK {
			t.Errorf("byte %d is %v, %d", at, r, e)
		}
	}
	if r, e := j.Peek(second.Ref, 0); r != whole(1) || e != api.OK {
		t.Error(r, e)
	}
	if r, e := j.Peek(second.Ref, 2); r != null || e != api.ErrIndex {
		t.Error(r, e)
	}
	wider := j.run("view_", second, text("u8"), whole(1), whole(1))
	j.poke(wider, 0, whole(9))
	if r, e := j.Peek(buffer.Ref, 4); r != whole(9) || e != api.OK {
		t.Error(r, e)
	}
}

// Things keep their numbers, released ones are held no more, and the next one gets the least that was never given.
func TestLoadedNumbers(t *testing.T) {
	p := play(t, maker, 99)
	var rows []api.Raw
	for n := range int64(5) {
		rows = append(rows, p.run("row_", whole(n)))
	}
	p.poke(rows[4], 0, rows[1])
	p.poke(rows[4], 1, rows[2])
	p.release(rows[1], rows[3])
	j := &player{t, load(t, save(t, p.Machine))}
	for _, ref := range []int{1, 3, 5, -1, 99} {
		if e := j.Release(ref); e != api.ErrRef {
			t.Errorf("Release(%d): %d", ref, e)
		}
	}
	if r, e := j.Peek(4, 1); r != rows[2] || e != api.OK {
		t.Error(r, e)
	}
	if r, e := j.Peek(4, 0); r != (api.Raw{Kind: api.Row, Ref: 5, Len: 1}) || e != api.OK {
		t.Error(r, e)
	}
	if r := j.run("row_", whole(0)); r.Ref != 6 {
		t.Error(r)
	}
	if e := j.SetGlobal("a", api.Raw{Kind: api.U8, Ref: 4}); e != api.ErrRef {
		t.Error(e)
	}
}

// A loaded machine does what a tree machine does to which all was done, step by step: with it, all that is told behind a load is held against chapter 15.
func TestLoadedAgainstTree(t *testing.T) {
	src := "let g; let n; fn f(x) { if g == nil { g = row(3); n = 0; } g[n % 3] = text(n) + x + x; n = n + 1; out g[0]; let s = n * 0x1p-1; return g; }"
	tree, fault := walk.New(src, 60)
	if fault.Code != api.OK {
		t.Fatal(fault)
	}
	m := open(t, src, 60)
	for round := range 30 {
		m = load(t, save(t, m))
		arg := []api.Raw{text(filler(round * 3 % 50))}
		if a, b := tree.Start("f", arg, 99), m.Start("f", arg, 99); a != b {
			t.Fatal(a, b)
		}
		for tree.Step() {
			want, _ := tree.State()
			if !m.Step() {
				t.Fatal("no step")
			}
			if got, _ := m.State(); fmt.Sprint(got) != fmt.Sprint(want) || m.Reach() != tree.Reach() {
				t.Fatalf("%v, %d; want %v, %d", got, m.Reach(), want, tree.Reach())
			}
		}
		m.Step()
		want, _ := tree.End()
		if got, _ := m.End(); !sameEnd(got, want) {
			t.Fatalf("round %d: %s; want %s", round, short(got), short(want))
		}
	}
}
