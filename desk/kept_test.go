package desk_test

import (
	"slices"
	"testing"

	"casket/api"
	"casket/desk"
	"casket/heap"
	"casket/word"
)

// What a desk keeps goes out and comes in; the register machine's own tests ask for the rest of it.
func TestKept(t *testing.T) {
	d := open(t, "let a; let b; fn f() { }", 20)
	k, e := d.Kept()
	if e != api.OK || len(k.Globals) != 2 || len(k.Refs) != 0 || len(k.Things) != 0 || k.Next != 0 || d.UnderWay() {
		t.Error(k, e)
	}
	zero, _ := word.FromHandle(0)
	h, e := heap.Filled(9, []api.Cell{{Kind: api.Row, Words: []uint64{zero}}})
	if e != api.OK {
		t.Fatal(e)
	}
	want := desk.Kept{Globals: []uint64{word.FromNil(), zero}, Refs: []int{4}, Things: []uint64{zero}, Next: 5}
	if e := d.Restore(h, want); e != api.OK {
		t.Fatal(e)
	}
	k, e = d.Kept()
	if e != api.OK || !slices.Equal(k.Globals, want.Globals) || !slices.Equal(k.Refs, want.Refs) || !slices.Equal(k.Things, want.Things) || k.Next != 5 {
		t.Error(k, e)
	}
	if r, e := d.Peek(4, 0); r != (api.Raw{Kind: api.Row, Ref: 4, Len: 1}) || e != api.OK {
		t.Error(r, e)
	}
	d.Take("f", nil, 9)
	d.Begin(&script{Tally: desk.NewTally(9), left: 1, value: d.Memory.Null()})
	if _, e := d.Kept(); e != api.ErrState || !d.UnderWay() {
		t.Error(e)
	}
	if e := d.Restore(h, want); e != api.ErrState {
		t.Error(e)
	}
	d.Finish()
	if _, ok := d.End(); !ok {
		t.Error("no run has ended")
	}
	if e := d.Restore(h, want); e != api.OK {
		t.Error(e)
	}
	if _, ok := d.End(); ok {
		t.Error("a run has ended")
	}
	want.Globals = want.Globals[:1]
	if e := d.Restore(h, want); e != api.ErrArg {
		t.Error(e)
	}
}
