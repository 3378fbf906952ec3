package heap_test

import (
	"slices"
	"testing"

	"casket/api"
)

// Promise 6.5: Set.

func TestSet(t *testing.T) {
	s := newSome(t)
	r := s.right(row(make([]uint64, 5)...))
	for i := range 5 {
		for _, x := range append(slices.Clone(plains), s.all...) {
			s.set(r, i, x)
			s.look()
		}
	}
}

// The first error that applies is the answer, and nothing has changed.
func TestSetErrors(t *testing.T) {
	s := newSome(t)
	none := s.right(row())
	gone, _ := s.put(number(3), s.all...)
	s.collect(s.all...)
	bad := slices.Concat(strays, nobodys, []uint64{gone})
	for _, x := range append(bad, 0, s.row) {
		for _, i := range []int{least, -1 << 61, -1, 0, 3, 4, 5, 1 << 31, 1 << 32, 1 << 60, 1 << 61, 1<<61 + 1, most} {
			for _, w := range slices.Concat(plains, bad) {
				wantSet(t, s.h, w, i, x, api.ErrHandle)
			}
			for _, w := range []uint64{s.number, s.text, s.bytes, s.view} {
				wantSet(t, s.h, w, i, x, api.ErrKind)
			}
			if i < 0 || i > 3 {
				wantSet(t, s.h, s.row, i, x, api.ErrIndex)
			}
			wantSet(t, s.h, none, i, x, api.ErrIndex)
		}
		s.look()
	}
	for _, x := range bad {
		for i := range 4 {
			wantSet(t, s.h, s.row, i, x, api.ErrStray)
		}
	}
	s.look()
}

// What is set is reached; what it stood for is not.
func TestSetReaches(t *testing.T) {
	m := newModel(t, 20)
	a, _ := m.put(number(1))
	b, _ := m.put(number(2), a)
	r, _ := m.put(row(a, 0), a, b)
	wantReach(t, m.h, 5, r)
	m.set(r, 1, b)
	wantReach(t, m.h, 7, r)
	m.set(r, 0, b)
	wantReach(t, m.h, 5, r)
	m.set(r, 0, r)
	wantReach(t, m.h, 5, r)
	m.collect(r)
	wantHeld(t, m.h, b, r)
}
