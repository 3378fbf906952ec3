package heap_test

import (
	"slices"
	"testing"

	"casket/api"
	"casket/word"
)

// Promise 6.4: Put refuses just what does not fit beside what is reached.

// full is a model whose cells are all needed: a number, a text, a buffer, a view of it and a row of all.
func full(t *testing.T, spare int) (m *model, top uint64) {
	m = newModel(t, 2+3+2+1+5+spare)
	a, _ := m.put(number(1))
	b, _ := m.put(text("123456789"), a)
	c, _ := m.put(buffer(api.I16, 1, 2, 3, 4, 5, 6, 7, 8), a, b)
	d, _ := m.put(view(api.U8, c, 3, 4), a, b)
	top, e := m.put(row(a, b, d, small(9)), a, b, d)
	if e != api.OK || len(m.have) != 5 {
		t.Fatalf("%d, %d cells", e, len(m.have))
	}
	return m, top
}

// The units just suffice, or one is lacking.
func TestPutJustFits(t *testing.T) {
	for _, c := range []api.Cell{
		number(7), text(""), text("1"), text("12345678"), text("123456789"), row(), row(0), row(0, 0, 0),
		buffer(api.F64), buffer(api.F64, blank(16)...), buffer(api.F32, blank(12)...), buffer(api.I16, blank(10)...), buffer(api.U8, 9),
	} {
		for spare := range needOf(c) + 2 {
			m, top := full(t, spare)
			want := api.OK
			if spare < needOf(c) {
				want = api.ErrMemory
			}
			if _, e := m.put(c, top); e != want {
				t.Errorf("Put(%s) beside %d spare units: %d", tell(c), spare, e)
			}
		}
	}
}

// What its own words and its Base reach is needed, without roots too.
func TestPutItsOwnWords(t *testing.T) {
	m, top := full(t, 1)
	if _, e := m.put(row(top)); e != api.ErrMemory || len(m.have) != 5 {
		t.Errorf("a row of all: %d, %d cells", e, len(m.have))
	}
	m, top = full(t, 2)
	if _, e := m.put(row(top)); e != api.OK || len(m.have) != 6 {
		t.Errorf("a row of all: %d, %d cells", e, len(m.have))
	}
	m = newModel(t, 3)
	b, _ := m.put(buffer(api.U8, 1, 2, 3))
	if _, e := m.put(view(api.U8, b, 1, 1)); e != api.OK || len(m.have) != 2 {
		t.Errorf("a view: %d, %d cells", e, len(m.have))
	}
	if _, e := m.put(view(api.U8, b, 1, 1)); e != api.OK || len(m.have) != 2 { // in place of the first one
		t.Errorf("another view: %d, %d cells", e, len(m.have))
	}
	m = newModel(t, 2)
	b, _ = m.put(buffer(api.U8, 1, 2, 3))
	if _, e := m.put(view(api.U8, b, 1, 1)); e != api.ErrMemory || len(m.have) != 1 {
		t.Errorf("a view without room: %d, %d cells", e, len(m.have))
	}
}

// Behind ErrMemory the heap holds just what is reached, also where it held more.
func TestPutHoldsWhatIsReached(t *testing.T) {
	m := newModel(t, 12)
	a, _ := m.put(number(1))
	b, _ := m.put(number(2), a)
	r, _ := m.put(row(a), a, b)
	m.put(number(4), a, b, r)
	if len(m.have) != 4 {
		t.Fatalf("%d cells", len(m.have))
	}
	wantNoPut(t, m.h, api.ErrMemory, text(string(blank(80))), r)
	wantHeld(t, m.h, a, r)
	wantNoGet(t, m.h, b)
	wantNoPut(t, m.h, api.ErrMemory, text(string(blank(100))))
	wantHeld(t, m.h)
	for _, w := range []uint64{a, b, r} {
		wantNoGet(t, m.h, w)
	}
}

// What is more than the whole heap is refused with nothing in it.
func TestPutMoreThanAll(t *testing.T) {
	m := newModel(t, 3)
	for range 3 {
		m.put(text(string(blank(17))))
		m.put(row(0, 0, 0))
		if len(m.have) != 0 {
			t.Fatal("cells behind ErrMemory")
		}
		if _, e := m.put(text(string(blank(16)))); e != api.OK {
			t.Fatalf("what just fits: %d", e)
		}
	}
}

// Cells that no root reaches make room, however many.
func TestPutInPlaceOfOthers(t *testing.T) {
	m := newModel(t, 20)
	keep, _ := m.put(number(-5))
	for i := range 200 {
		if _, e := m.put(buffer(api.U8, mixed(i, i%130)...), keep); e != api.OK {
			t.Fatalf("Put %d: %d", i, e)
		}
		wantGet(t, m.h, keep, number(-5))
	}
}

// Roots may be any words, and as many as you like.
func TestPutRoots(t *testing.T) {
	others := slices.Concat(plains, strays, nobodys)
	for _, w := range others {
		if word.Class(w) == api.ClassHandle != slices.Contains(nobodys, w) {
			t.Fatalf("%x", w)
		}
	}
	m, top := full(t, 2)
	roots := slices.Concat(others, []uint64{top, top}, others, []uint64{top})
	last := uint64(0)
	for i := range 5 {
		var e api.Errno
		if last, e = m.put(number(int64(i)), roots...); e != api.OK || len(m.have) != 6 {
			t.Fatalf("Put with roots: %d, %d cells", e, len(m.have))
		}
	}
	if _, e := m.put(text(""), append(roots, last)...); e != api.ErrMemory || len(m.have) != 6 {
		t.Errorf("Put with one root more: %d, %d cells", e, len(m.have))
	}
}

// A root whose cell is gone holds nothing.
func TestPutRootsThatAreGone(t *testing.T) {
	m := newModel(t, 4)
	a, _ := m.put(number(1))
	b, _ := m.put(number(2), a)
	m.collect()
	if _, e := m.put(text(string(blank(24))), a, b); e != api.OK {
		t.Errorf("Put with roots that are gone: %d", e)
	}
}

// Rows that hold themselves and one another go, if nothing else holds them.
func TestPutCircles(t *testing.T) {
	m := newModel(t, 9)
	a, _ := m.put(row(0, 0))
	b, _ := m.put(row(a, a), a)
	m.set(a, 0, b)
	m.set(a, 1, a)
	c, e := m.put(row(b, a), a)
	if e != api.OK || len(m.have) != 3 {
		t.Fatalf("%d, %d cells", e, len(m.have))
	}
	m.set(b, 0, c)
	for _, w := range []uint64{a, b, c} {
		wantReach(t, m.h, 9, w)
	}
	if _, e := m.put(row(), a); e != api.ErrMemory || len(m.have) != 3 {
		t.Fatalf("beside a circle: %d, %d cells", e, len(m.have))
	}
	if _, e := m.put(text(string(blank(64)))); e != api.OK || len(m.have) != 1 {
		t.Errorf("in place of a circle: %d, %d cells", e, len(m.have))
	}
}

// A chain with as many rows as the heap has units for.
func TestLongChain(t *testing.T) {
	const n = 1 << 18
	h := newHeap(t, 2*n)
	first := wantPut(t, h, row(0))
	last := first
	for range n - 1 {
		last = wantPut(t, h, row(last), last)
	}
	wantReach(t, h, 2*n, last)
	wantReach(t, h, 2, first)
	wantNoPut(t, h, api.ErrMemory, row(), last)
	wantReach(t, h, 2*n, last)
	wantSet(t, h, first, 0, last, api.OK)
	wantReach(t, h, 2*n, first)
	h.Collect([]uint64{first})
	wantReach(t, h, 2*n, last)
	wantSet(t, h, last, 0, small(0), api.OK)
	h.Collect([]uint64{first})
	wantHeld(t, h, first, last)
}

// A view alone holds its buffer.
func TestPutViewHoldsItsBuffer(t *testing.T) {
	m := newModel(t, 6)
	b, _ := m.put(buffer(api.U8, 1, 2, 3, 4))
	v, _ := m.put(view(api.I16, b, 2, 1), b)
	w, _ := m.put(number(1), v)
	if _, e := m.put(number(2), v, w); e != api.ErrMemory || len(m.have) != 3 {
		t.Fatalf("beside a view and a number: %d, %d cells", e, len(m.have))
	}
	if _, e := m.put(number(3), v); e != api.OK || len(m.have) != 3 {
		t.Fatalf("beside a view: %d, %d cells", e, len(m.have))
	}
	m.write(v, 0, 2, 0xbeef)
	m.look()
	m.read(b, 2, 2)
}

// Where bytes lie does not matter: what fits by its units is put.
func TestPutHoweverBytesLie(t *testing.T) {
	for gap := 2; gap < 7; gap++ {
		m := newModel(t, 120)
		var all, kept []uint64
		for i := range 30 {
			w, e := m.put(buffer(api.U8, mixed(i, 17+i%8)...), all...)
			if e != api.OK {
				t.Fatalf("Put %d: %d", i, e)
			}
			all = append(all, w)
			if i%gap == 0 {
				kept = append(kept, w)
			}
		}
		free := 120 - m.h.Reach(kept)
		w, e := m.put(buffer(api.F64, mixed(gap, 8*(free-1))...), kept...)
		if e != api.OK {
			t.Fatalf("Put of all that is left: %d", e)
		}
		if _, e := m.put(text(""), append(kept, w)...); e != api.ErrMemory {
			t.Fatalf("Put of one more: %d", e)
		}
	}
}

// A new cell has nothing of one that was there ahead of it.
func TestPutIsNotWhatWasThere(t *testing.T) {
	m := newModel(t, 8)
	for i := range 100 {
		c := []api.Cell{number(-1), text("0123456789"), buffer(api.F32, mixed(i, 12)...), row(small(1), 2), buffer(api.U8), row(), buffer(api.U8, 0, 0, 0)}[i%7]
		b, e := m.put(c)
		if e == api.OK && c.Kind == api.F32 {
			m.put(view(api.U8, b, 1, 2), b)
		}
	}
}
