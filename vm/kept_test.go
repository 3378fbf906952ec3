package vm_test

import (
	"math"
	"reflect"
	"slices"
	"testing"

	"casket/api"
	"casket/site"
	"casket/vm"
	"casket/word"
)

// Kept, Cell and Restore are no calls of chapter 16: what a machine keeps from run to run goes out and comes in by them.

const keeper = "let g; let h; fn f(a, b) { return a + b; } fn make(n) { g = row(n); return g; }"

func keptBy(t testing.TB, m *vm.Machine) vm.Kept {
	t.Helper()
	k, e := m.Kept()
	if e != api.OK {
		t.Fatalf("Kept is %d", e)
	}
	return k
}

func handle(n uint64) uint64 {
	w, _ := word.FromHandle(n)
	return w
}

func TestKept(t *testing.T) {
	m := load(t, keeper, 40)
	null := word.FromNil()
	want := vm.Kept{Source: keeper, Units: 40, Sites: []site.State{{Told: api.Site{At: 36}}}}
	want.Globals = []uint64{null, null}
	if got := keptBy(t, m); !reflect.DeepEqual(got, want) {
		t.Errorf("Kept: %+v\nwant %+v", got, want)
	}
	run(t, m, "f", whole(1), whole(2))
	run(t, m, "make", whole(2))
	run(t, m, "make", whole(3))
	m.Release(0)
	m.SetGlobal("h", text("abcdef"))
	got := keptBy(t, m)
	want.Sites[0] = site.State{Told: api.Site{At: 36, Generic: 1}, Kind: api.Whole, Length: 1}
	want.Globals, want.Refs, want.Things, want.Next = got.Globals, []int{1}, got.Globals[:1], 2
	if !reflect.DeepEqual(got, want) {
		t.Errorf("Kept: %+v\nwant %+v", got, want)
	}
	if c, e := m.Cell(got.Globals[0]); e != api.OK || c.Kind != api.Row || !slices.Equal(c.Words, []uint64{null, null, null}) {
		t.Errorf("Cell: %+v, %d", c, e)
	}
	if c, e := m.Cell(got.Globals[1]); e != api.OK || c.Kind != api.Text || c.Text != "abcdef" {
		t.Errorf("Cell: %+v, %d", c, e)
	}
	for _, w := range []uint64{0, null, handle(1 << 40)} {
		if _, e := m.Cell(w); e != api.ErrHandle {
			t.Errorf("Cell(%x) is %d", w, e)
		}
	}
	start(t, m, "make", 9, whole(1))
	if k, e := m.Kept(); e != api.ErrState || !reflect.DeepEqual(k, vm.Kept{}) {
		t.Errorf("Kept in a run: %+v, %d", k, e)
	}
}

// What is told of it is a copy.
func TestKeptApart(t *testing.T) {
	m := load(t, keeper, 40)
	run(t, m, "make", whole(2))
	k, again := keptBy(t, m), keptBy(t, m)
	c, _ := m.Cell(k.Globals[0])
	clear(c.Words)
	clear(k.Globals)
	clear(k.Things)
	k.Refs[0] = 9
	k.Sites[0].Told.Fails = 9
	if got := keptBy(t, m); !reflect.DeepEqual(got, again) {
		t.Errorf("Kept: %+v\nwant %+v", got, again)
	}
	if c, _ := m.Cell(again.Globals[0]); c.Words[0] != word.FromNil() {
		t.Error("the cell is no copy")
	}
}

func TestKeptOfZero(t *testing.T) {
	m := &vm.Machine{}
	if k := keptBy(t, m); !reflect.DeepEqual(k, vm.Kept{}) {
		t.Errorf("%+v", k)
	}
	if _, e := m.Cell(handle(0)); e != api.ErrHandle {
		t.Error(e)
	}
	if e := m.Restore(vm.Kept{Units: 9}, nil); e != api.OK || m.Reach() != 0 {
		t.Error(e)
	}
}

// restorable is what a machine of keeper may keep, and its cells.
func restorable() (vm.Kept, []api.Cell) {
	k := vm.Kept{Source: keeper, Units: 12, Sites: []site.State{{Told: api.Site{At: 36, Form: api.Double, Generic: 7, Fast: 5, Fails: 2}}}}
	k.Globals = []uint64{handle(1), handle(3)}
	k.Refs, k.Things, k.Next = []int{2, 6}, []uint64{handle(0), handle(1)}, 7
	cells := []api.Cell{{Kind: api.Row, Words: []uint64{handle(1), handle(0), 0}}, {Kind: api.I16, View: true, Base: handle(2), From: 2, Len: 1}, {Kind: api.U8, Bytes: []byte{1, 2, 3, 4}}, {Kind: api.Text, Text: "abcdef"}}
	return k, cells
}

func TestRestore(t *testing.T) {
	m := load(t, keeper, 40)
	run(t, m, "make", whole(9))
	k, cells := restorable()
	if e := m.Restore(k, cells); e != api.OK {
		t.Fatal(e)
	}
	if got := keptBy(t, m); !reflect.DeepEqual(got, k) {
		t.Errorf("Kept: %+v\nwant %+v", got, k)
	}
	if _, ok := m.End(); ok || m.Reach() != 4+1+2+2 {
		t.Errorf("a run has ended, or %d units are reached", m.Reach())
	}
	if r, e := m.Global("g"); r != thing(api.I16, 6, 1) || e != api.OK {
		t.Error(r, e)
	}
	if r, e := m.Peek(6, 0); r != whole(1027) || e != api.OK {
		t.Error(r, e)
	}
	if r, e := m.Peek(2, 1); r != thing(api.Row, 2, 3) || e != api.OK {
		t.Error(r, e)
	}
	wantSites(t, m, k.Sites[0].Told)
	for _, in := range codeOf(t, m, "f") {
		if in.Site == 0 && in.Form != api.Double {
			t.Error(in)
		}
	}
	if end := run(t, m, "f", double(half), double(half)); end.Value != double(one) {
		t.Error(end)
	}
	wantSites(t, m, api.Site{At: 36, Form: api.Double, Generic: 7, Fast: 6, Fails: 2})
	if end := run(t, m, "make", whole(2)); end.Code != api.OK || end.Value != thing(api.Row, 7, 2) { // 4 + 1 + 2 + 2 + 3
		t.Error(end)
	}
	if end := run(t, m, "make", whole(0)); end.Code != api.ErrMemory {
		t.Error(end)
	}
	// What was handed in is not kept.
	clear(k.Globals)
	clear(k.Things)
	clear(cells[0].Words)
	clear(cells[2].Bytes)
	k.Sites[0].Told.Fails = 99
	if r, e := m.Peek(6, 0); r != whole(1027) || e != api.OK || m.Sites()[0].Fails != 2 {
		t.Error(r, e)
	}
}

func TestRestoreRefused(t *testing.T) {
	null := word.FromNil()
	for i, x := range []struct {
		spoil func(k *vm.Kept, cells []api.Cell)
		want  api.Errno
	}{
		{func(k *vm.Kept, cells []api.Cell) { k.Source += " " }, api.ErrArg},
		{func(k *vm.Kept, cells []api.Cell) { k.Units = -1 }, api.ErrArg},
		{func(k *vm.Kept, cells []api.Cell) { k.Units = api.MaxUnits + 1 }, api.ErrArg},
		{func(k *vm.Kept, cells []api.Cell) { k.Units = 8 }, api.ErrMemory},
		{func(k *vm.Kept, cells []api.Cell) { cells[1].From = 1 }, api.ErrArg},
		{func(k *vm.Kept, cells []api.Cell) { cells[1].Base = handle(0) }, api.ErrArg},
		{func(k *vm.Kept, cells []api.Cell) { cells[0].Words[1] = handle(4) }, api.ErrArg},
		{func(k *vm.Kept, cells []api.Cell) { cells[3].Kind = api.Nil }, api.ErrArg},
		{func(k *vm.Kept, cells []api.Cell) { k.Globals = k.Globals[:1] }, api.ErrArg},
		{func(k *vm.Kept, cells []api.Cell) { k.Globals = append(k.Globals, null) }, api.ErrArg},
		{func(k *vm.Kept, cells []api.Cell) { k.Globals[0] = handle(4) }, api.ErrArg},
		{func(k *vm.Kept, cells []api.Cell) { k.Globals[1] = math.MaxUint64 }, api.ErrArg},
		{func(k *vm.Kept, cells []api.Cell) { k.Things = k.Things[:1] }, api.ErrArg},
		{func(k *vm.Kept, cells []api.Cell) { k.Refs = nil }, api.ErrArg},
		{func(k *vm.Kept, cells []api.Cell) { k.Refs[0] = -1 }, api.ErrArg},
		{func(k *vm.Kept, cells []api.Cell) { k.Refs[0] = 6 }, api.ErrArg},
		{func(k *vm.Kept, cells []api.Cell) { k.Refs[0] = 7 }, api.ErrArg},
		{func(k *vm.Kept, cells []api.Cell) { k.Next = 6 }, api.ErrArg},
		{func(k *vm.Kept, cells []api.Cell) { k.Refs, k.Things, k.Next = nil, nil, -1 }, api.ErrArg},
		{func(k *vm.Kept, cells []api.Cell) { k.Things[0] = handle(3) }, api.ErrArg},
		{func(k *vm.Kept, cells []api.Cell) { k.Things[0] = handle(9) }, api.ErrArg},
		{func(k *vm.Kept, cells []api.Cell) { k.Things[1] = null }, api.ErrArg},
		{func(k *vm.Kept, cells []api.Cell) { k.Sites = nil }, api.ErrArg},
		{func(k *vm.Kept, cells []api.Cell) { k.Sites = append(k.Sites, k.Sites[0]) }, api.ErrArg},
		{func(k *vm.Kept, cells []api.Cell) { k.Sites[0].Told.At = 35 }, api.ErrArg},
		{func(k *vm.Kept, cells []api.Cell) { k.Sites[0].Told.Form = 3 }, api.ErrArg},
		{func(k *vm.Kept, cells []api.Cell) { k.Sites[0].Length = 1 }, api.ErrArg},
	} {
		m := load(t, keeper, 40)
		run(t, m, "make", whole(3))
		was := keptBy(t, m)
		k, cells := restorable()
		x.spoil(&k, cells)
		if e := m.Restore(k, cells); e != x.want {
			t.Errorf("%d: Restore is %d; want %d", i, e, x.want)
		}
		end, ok := m.End()
		if got := keptBy(t, m); !reflect.DeepEqual(got, was) || m.Reach() != 4 || !ok || end.Value != thing(api.Row, 0, 3) {
			t.Errorf("%d: a refused Restore has changed something", i)
		}
	}
	m := load(t, keeper, 40)
	k, cells := restorable()
	start(t, m, "make", 9, whole(1))
	if e := m.Restore(k, cells); e != api.ErrState {
		t.Errorf("Restore in a run is %d", e)
	}
	if !m.Step() {
		t.Error("the run is gone")
	}
}
