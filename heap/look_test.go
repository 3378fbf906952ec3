package heap_test

import (
	"slices"
	"testing"

	"casket/api"
	"casket/heap"
)

// Look and Word tell what Get tells, but for copies. That they do so of each cell, the model looks at.

// wantLook asks for a cell without what Get would copy, and for a row's words one by one.
func wantLook(t *testing.T, h *heap.Heap, w uint64, of api.Cell) {
	t.Helper()
	bytes := len(of.Text) + len(of.Bytes) + 8*len(of.Words)
	if of.Kind == api.Int {
		bytes = 8
	}
	want := of
	want.Int, want.Text, want.Bytes, want.Words = 0, "", nil, nil
	if got, n, e := h.Look(w); e != api.OK || n != bytes || !same(got, want) {
		t.Fatalf("Look(%x): %s, %d, %d; want %s, %d", w, tell(got), n, e, tell(want), bytes)
	}
	for i, x := range of.Words {
		if got, e := h.Word(w, i); got != x || e != api.OK {
			t.Fatalf("Word(%x, %d): %x, %d; want %x", w, i, got, e, x)
		}
	}
}

func TestLookOfNoCell(t *testing.T) {
	s := newSome(t)
	gone, _ := s.put(number(3), s.all...)
	s.collect(s.all...)
	for _, w := range slices.Concat(plains, strays, nobodys, []uint64{gone}) {
		if c, n, e := s.h.Look(w); !same(c, api.Cell{}) || n != 0 || e != api.ErrHandle {
			t.Errorf("Look(%x): %s, %d, %d", w, tell(c), n, e)
		}
	}
	s.look()
}

func TestWordErrors(t *testing.T) {
	s := newSome(t)
	none := s.right(row())
	wantNoWord := func(w uint64, i int, want api.Errno) {
		t.Helper()
		if x, e := s.h.Word(w, i); x != 0 || e != want {
			t.Errorf("Word(%x, %d): %x, %d; want %d", w, i, x, e, want)
		}
	}
	for _, i := range []int{least, -1 << 61, -1, 0, 3, 4, 5, 1 << 31, 1 << 60, 1 << 61, most} {
		for _, w := range slices.Concat(plains, strays, nobodys) {
			wantNoWord(w, i, api.ErrHandle)
		}
		for _, w := range []uint64{s.number, s.text, s.bytes, s.view} {
			wantNoWord(w, i, api.ErrKind)
		}
		if i < 0 || i > 3 {
			wantNoWord(s.row, i, api.ErrIndex)
		}
		wantNoWord(none, i, api.ErrIndex)
	}
	s.look()
}
