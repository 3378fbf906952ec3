package heap_test

import (
	"strings"
	"testing"

	"casket/api"
	"casket/heap"
)

// Filled is no call of chapter 6: what it makes must be as that chapter says all the same.

func wantFilled(t *testing.T, units int, cells ...api.Cell) *heap.Heap {
	t.Helper()
	h, e := heap.Filled(units, cells)
	if h == nil || e != api.OK {
		t.Fatalf("Filled(%d, ..) is %d", units, e)
	}
	n := 0
	for w, kind := range h.Cells() {
		if w != handle(uint64(n)) || kind != cells[n].Kind {
			t.Errorf("cell %d is %x, of kind %d", n, w, kind)
		}
		wantGet(t, h, w, cells[n])
		n++
	}
	if n != len(cells) || h.Room() != units {
		t.Errorf("%d cells, room for %d units", n, h.Room())
	}
	return h
}

func wantNotFilled(t *testing.T, want api.Errno, units int, cells ...api.Cell) {
	t.Helper()
	if h, e := heap.Filled(units, cells); h != nil || e != want {
		t.Errorf("Filled(%d, ..) is %d; want %d", units, e, want)
	}
}

func TestFilled(t *testing.T) {
	wantFilled(t, 0)
	wantFilled(t, api.MaxUnits)
	wantNotFilled(t, api.ErrArg, -1)
	wantNotFilled(t, api.ErrArg, api.MaxUnits+1)
	ring := []api.Cell{
		row(handle(1), small(5), handle(0)), row(handle(2), handle(3), handle(0)), view(api.I16, handle(4), 2, 3), number(-7),
		buffer(api.U8, 1, 2, 3, 4, 5, 6, 7, 8), text("a text"), row(), buffer(api.F64),
	}
	need := 0
	for _, c := range ring {
		need += needOf(c)
	}
	h := wantFilled(t, need, ring...)
	wantReach(t, h, need-needOf(ring[5])-needOf(ring[6])-needOf(ring[7]), handle(0))
	wantNotFilled(t, api.ErrMemory, need-1, ring...)

	// It goes on as a heap does: what is reached stays, all else makes room.
	if w, e := h.Put(text("four units in all, no more"), []uint64{handle(0)}); e != api.ErrMemory || w != 0 {
		t.Errorf("Put: %x, %d", w, e)
	}
	w := wantPut(t, h, text("1234567890"), handle(0))
	wantGet(t, h, w, text("1234567890"))
	wantGet(t, h, handle(2), ring[2])
	if e := h.Write(handle(2), 0, 2, 0x0908); e != api.OK {
		t.Error(e)
	}
	wantGet(t, h, handle(4), buffer(api.U8, 1, 2, 8, 9, 5, 6, 7, 8))
	h.Collect(nil)
	for range h.Cells() {
		t.Error("a cell is left")
	}
}

// A cell that is not right is told ahead of too few units, wherever it stands.
func TestFilledWrong(t *testing.T) {
	for _, c := range []api.Cell{
		{}, {Kind: api.Bool}, {Kind: api.Float}, {Kind: api.Row + 1}, {Kind: api.Int, View: true}, {Kind: api.Int, Len: 1},
		buffer(api.I16, 1), buffer(api.U8, blank(api.MaxBytes+1)...), text(strings.Repeat("x", api.MaxBytes+1)),
		row(handle(3)), row(handle(1 << 47)), row(0xfff8000000000003), row(make([]uint64, api.MaxUnits+1)...),
		view(api.U8, handle(0), 0, 0), view(api.U8, handle(1), 0, 0), view(api.U8, handle(3), 0, 0), view(api.U8, 0, 0, 0),
		view(api.U8, handle(2), 0, 9), view(api.I16, handle(2), 1, 1), view(api.I16, handle(2), -2, 1), view(api.I16, handle(2), 0, -1),
	} {
		wantNotFilled(t, api.ErrArg, api.MaxUnits, number(1), c, buffer(api.U8, blank(8)...))
		wantNotFilled(t, api.ErrArg, 0, number(1), c, buffer(api.U8, blank(8)...))
	}
	wantNotFilled(t, api.ErrMemory, api.MaxUnits, text(strings.Repeat("x", api.MaxBytes)))
	wantNotFilled(t, api.ErrMemory, api.MaxUnits, row(make([]uint64, api.MaxUnits)...))
}

// What is handed in may be written over behind the call.
func TestFilledApart(t *testing.T) {
	bytes, words := []byte{1, 2, 3, 4}, []uint64{handle(0), handle(1)}
	h, e := heap.Filled(99, []api.Cell{buffer(api.U8, bytes...), row(words...)})
	if e != api.OK {
		t.Fatal(e)
	}
	clear(bytes)
	clear(words)
	wantGet(t, h, handle(0), buffer(api.U8, 1, 2, 3, 4))
	wantGet(t, h, handle(1), row(handle(0), handle(1)))
	h.Write(handle(0), 0, 4, 0)
	if bytes[3] != 0 {
		t.Error("the heap writes what it was handed")
	}
}
