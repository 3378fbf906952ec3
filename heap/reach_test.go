package heap_test

import (
	"slices"
	"testing"

	"casket/api"
)

// Promise 6.6: Reach, Collect and Cells.

func TestReach(t *testing.T) {
	s := newSome(t)
	needs := map[uint64]int{s.number: 2, s.text: 3, s.bytes: 3, s.view: 4, s.row: 5 + 2 + 3 + 4}
	wantReach(t, s.h, 0)
	for w, need := range needs {
		wantReach(t, s.h, need, w)
		wantReach(t, s.h, need, w, w, w)
		wantReach(t, s.h, need, slices.Concat(plains, []uint64{w}, strays, nobodys)...)
	}
	wantReach(t, s.h, 4, s.view, s.bytes)
	wantReach(t, s.h, 4, s.bytes, s.view)
	wantReach(t, s.h, 5, s.number, s.text)
	wantReach(t, s.h, 14, s.all...)
	wantReach(t, s.h, 0, slices.Concat(plains, strays, nobodys)...)
	s.look()
	wantHeld(t, s.h, s.all...)
}

func TestCollect(t *testing.T) {
	for pick := range 32 {
		s := newSome(t)
		var roots []uint64
		for i, w := range s.all {
			if pick>>i&1 == 1 {
				roots = append(roots, w)
			}
		}
		s.collect(roots...)
		s.collect(roots...)
		s.collect(append(append(roots, roots...), plains...)...)
		s.collect(append(roots, s.all...)...) // what is gone holds nothing
		s.collect(strays...)
		wantHeld(t, s.h)
		s.collect()
	}
}

// Handles in numbers, texts and bytes hold nothing.
func TestCollectReadsNoBytes(t *testing.T) {
	m := newModel(t, 50)
	gone, _ := m.put(number(1))
	b := make([]byte, 8)
	for i := range b {
		b[i] = byte(gone >> (8 * i))
	}
	x, _ := m.put(number(int64(gone)), gone)
	y, _ := m.put(text(string(b)), gone, x)
	z, _ := m.put(buffer(api.F64, b...), gone, x, y)
	wantReach(t, m.h, 6, x, y, z)
	m.collect(x, y, z)
	wantHeld(t, m.h, x, y, z)
}

// The heap is whole behind Collect: its units are free again.
func TestCollectFrees(t *testing.T) {
	m := newModel(t, 10)
	for range 5 {
		m.collect()
		w, e := m.put(buffer(api.F32, mixed(3, 72)...))
		if e != api.OK {
			t.Fatalf("Put into an empty heap: %d", e)
		}
		m.collect(w)
		if _, e := m.put(row(), w); e != api.ErrMemory {
			t.Fatalf("Put into a full heap: %d", e)
		}
	}
}

func TestCells(t *testing.T) {
	s := newSome(t)
	var words []uint64
	var told []int
	for w, kind := range s.h.Cells() {
		words = append(words, w)
		told = append(told, kind)
	}
	if !slices.IsSorted(words) || len(words) != 5 {
		t.Errorf("Cells: %x", words)
	}
	want := map[uint64]int{s.number: api.Int, s.text: api.Text, s.bytes: api.U8, s.view: api.I16, s.row: api.Row}
	for i, w := range words {
		if told[i] != want[w] {
			t.Errorf("the cell %x has the kind %d; want %d", w, told[i], want[w])
		}
	}
}

// Handles rise with gaps and handles that were given anew.
func TestCellsRise(t *testing.T) {
	m := newModel(t, 60)
	c := chance(8)
	var roots []uint64
	for i := range 300 {
		w, e := m.put(text(string(mixed(i, c.below(20)))), roots...)
		if e == api.OK {
			roots = append(roots, w)
		}
		if i%7 == 6 || e != api.OK {
			roots = slices.DeleteFunc(roots, func(uint64) bool { return c.below(3) == 0 })
			m.collect(roots...)
		}
	}
}

func TestCellsLeftEarly(t *testing.T) {
	s := newSome(t)
	all := s.h.Cells()
	for n := range 6 {
		got := 0
		for range all {
			if got == n {
				break
			}
			got++
		}
		if got != min(n, 5) {
			t.Errorf("left behind %d: %d", n, got)
		}
	}
	for range 2 {
		n := 0
		for range all {
			n++
		}
		if n != 5 {
			t.Errorf("gone through again: %d", n)
		}
	}
	s.look()
}

// It tells the cells of when it is gone through, not of when it was asked for.
func TestCellsLater(t *testing.T) {
	m := newModel(t, 20)
	all := m.h.Cells()
	for range all {
		t.Error("a cell of an empty heap")
	}
	a, _ := m.put(number(1))
	for w, kind := range all {
		if w != a || kind != api.Int {
			t.Errorf("%x, %d", w, kind)
		}
	}
	m.collect()
	for range all {
		t.Error("a cell that is gone")
	}
}

// Whoever is told a cell may put and collect: what is told is held then.
func TestCellsAreTurned(t *testing.T) {
	s := newSome(t)
	n := 0
	for w := range s.h.Cells() {
		if _, e := s.h.Get(w); e != api.OK {
			t.Errorf("%x is told, and gone", w)
		}
		s.collect(s.view)
		n++
	}
	if n < 1 || n > 3 {
		t.Errorf("%d cells", n)
	}
	n = 0
	for range s.h.Cells() {
		s.put(text(""), s.view)
		n++
	}
	if n > 1000 {
		t.Errorf("%d cells", n)
	}
}
