package heap_test

import (
	"slices"
	"testing"

	"casket/api"
)

// Promise 6.5: Get. That it answers each cell as it was put, the model looks at behind each Put.

func TestGetOfNoCell(t *testing.T) {
	s := newSome(t)
	for _, w := range slices.Concat(plains, strays, nobodys) {
		wantNoGet(t, s.h, w)
	}
	for i := range uint64(48) { // a handle's bits in other words, and other handles
		wantNoGet(t, s.h, s.row&^(1<<63))
		wantNoGet(t, s.h, s.row^1<<(i+16))
	}
	gone := s.right(number(1))
	s.collect(s.all[:5]...)
	wantNoGet(t, s.h, gone)
	empty := newHeap(t, 10)
	for _, w := range append(s.all, handle(0), handle(1)) {
		wantNoGet(t, empty, w)
	}
}

// Each kind, of every length up to three units.
func TestGetOfEachLength(t *testing.T) {
	m := newModel(t, 100)
	for n := range 26 {
		b := mixed(n, n)
		m.put(text(string(b)))
		m.put(buffer(api.U8, b...))
		if n%8 == 0 {
			m.put(buffer(api.F64, b...))
		}
		words := make([]uint64, n)
		for i := range words {
			words[i] = plains[(i+n)%len(plains)]
		}
		m.put(row(words...))
	}
}

// Of a view there are no Bytes, though its buffer has some.
func TestGetOfView(t *testing.T) {
	m := newModel(t, 100)
	b, _ := m.put(buffer(api.F64, mixed(1, 32)...))
	for _, kind := range kinds {
		v, _ := m.put(view(kind, b, 8, 2), b)
		c, e := m.h.Get(v)
		if e != api.OK || len(c.Bytes) != 0 || c.Kind != kind || !c.View || c.Base != b || c.From != 8 || c.Len != 2 {
			t.Errorf("Get of a view: %s, %d", tell(c), e)
		}
	}
}

// What is handed in is not kept.
func TestPutKeepsNothing(t *testing.T) {
	h := newHeap(t, 100)
	b := []byte{1, 2, 3, 4, 5, 6, 7, 8, 9, 10, 11, 12}
	words := []uint64{small(1), small(2), small(3)}
	x := wantPut(t, h, buffer(api.U8, b[:10]...))
	y := wantPut(t, h, row(words[:2]...), x)
	clear(b)
	clear(words)
	wantGet(t, h, x, buffer(api.U8, 1, 2, 3, 4, 5, 6, 7, 8, 9, 10))
	wantGet(t, h, y, row(small(1), small(2)))
	roots := []uint64{x, y}
	h.Collect(roots)
	clear(roots)
	wantHeld(t, h, x, y)
}

// What lies behind a list's length is neither read nor written.
func TestPutReadsNothingBehind(t *testing.T) {
	h := newHeap(t, 6)
	words := []uint64{small(1), stray, handle(99)}
	a := wantPut(t, h, row(words[:1]...))
	b := wantPut(t, h, buffer(api.I16, []byte{1, 2, 3}[:2]...), a)
	roots := []uint64{a, b}
	wantPut(t, h, buffer(api.I16, []byte{1, 2, 3}[:2]...), roots[:1]...)
	wantReach(t, h, 2, roots[:1]...)
	if !slices.Equal(words, []uint64{small(1), stray, handle(99)}) || !slices.Equal(roots, []uint64{a, b}) {
		t.Error(words, roots)
	}
}

// What is handed to Set and Write goes where it is meant to, in what Get answered nowhere.
func TestGetSharesNothing(t *testing.T) {
	m := newModel(t, 100)
	b, _ := m.put(buffer(api.U8, 1, 2, 3, 4, 5, 6, 7, 8, 9))
	r, _ := m.put(row(small(1), small(2), b), b)
	one, _ := m.h.Get(b)
	two, _ := m.h.Get(b)
	three, _ := m.h.Get(r)
	four, _ := m.h.Get(r)
	m.write(b, 1, 1, 77)
	m.set(r, 1, r)
	for _, c := range []api.Cell{one, two} {
		if !slices.Equal(c.Bytes, []byte{1, 2, 3, 4, 5, 6, 7, 8, 9}) {
			t.Errorf("bytes that were got have changed: %v", c.Bytes)
		}
	}
	for _, c := range []api.Cell{three, four} {
		if !slices.Equal(c.Words, []uint64{small(1), small(2), b}) {
			t.Errorf("words that were got have changed: %x", c.Words)
		}
	}
	for _, c := range []api.Cell{one, three} {
		clear(c.Bytes[:cap(c.Bytes)]) // the spare room too
		clear(c.Words[:cap(c.Words)])
	}
	if two.Bytes[8] != 9 || four.Words[2] != b {
		t.Error("two answers share memory")
	}
	m.look()
}
