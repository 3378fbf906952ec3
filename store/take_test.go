package store_test

import (
	"testing"

	"casket/api"
	"casket/store"
)

// Promise 5.1.

func TestTakeRefused(t *testing.T) {
	m := newModel(t)
	for _, n := range []int{0, 5, 8, 20} {
		for _, wrong := range []int{-1, -2, -8, -api.MaxBytes, least + 1, least} {
			wantTake(t, m.s, wrong, 0, api.ErrRange)
			m.look()
		}
		for _, wrong := range []int{api.MaxBytes + 1, api.MaxBytes + 8, 1 << 24, 1 << 31, 1 << 32, most - 7, most} {
			wantTake(t, m.s, wrong, 0, api.ErrLong)
			m.look()
		}
		m.take(n)
	}
}

func TestTakeLengths(t *testing.T) {
	s := store.New()
	used := 0
	for id, n := range []int{0, 1, 7, 8, 9, 15, 16, 17, api.MaxBytes - 1, api.MaxBytes, 0, 3} {
		wantTake(t, s, n, id, api.OK)
		wantLen(t, s, id, n, api.OK)
		used += rounded(n)
		wantUsed(t, s, used)
		wantLoad(t, s, id, n, 1, 0, api.ErrIndex)
		if n > 0 {
			wantLoad(t, s, id, n-1, 1, 0, api.OK)
		}
	}
}

// A greatest extent is blank to its end, where bytes lay already too.
func TestTakeGreatestBlank(t *testing.T) {
	s := store.New()
	for range 5 {
		wantTake(t, s, api.MaxBytes, 0, api.OK)
		for off := 0; off < api.MaxBytes; off += 8 {
			if x, e := s.Load(0, off, 8); x != 0 || e != api.OK {
				t.Fatalf("at %d: %x, %d", off, x, e)
			}
			if e := s.Save(0, off, 8, ^uint64(off)); e != api.OK {
				t.Fatal(e)
			}
		}
		wantGive(t, s, 0, api.OK)
	}
}

func TestNewHasNone(t *testing.T) {
	m := newModel(t)
	m.look()
	for _, id := range append([]int{0, 1, 2}, strangeIds...) {
		wantNoExtent(t, m.s, id)
	}
	m.look()
}

func wantNoExtent(t *testing.T, s *store.Store, id int) {
	t.Helper()
	wantGive(t, s, id, api.ErrPlace)
	wantLen(t, s, id, 0, api.ErrPlace)
	wantLoad(t, s, id, 0, 1, 0, api.ErrPlace)
	wantSave(t, s, id, 0, 1, 1, api.ErrPlace)
}

func TestIdsOfNone(t *testing.T) {
	m := newModel(t)
	for _, n := range []int{4, 0, 8, 9, 0, 30} {
		m.take(n)
	}
	for _, id := range append([]int{6, 7}, strangeIds...) {
		wantNoExtent(t, m.s, id)
		m.look()
	}
	for _, id := range []int{3, 1, 5, 0, 4, 2} {
		m.give(id)
		for range 2 {
			wantNoExtent(t, m.s, id)
			m.look()
		}
	}
	m.take(1)
	for id := 1; id < 7; id++ {
		wantNoExtent(t, m.s, id)
	}
}

// Ids that were given back are taken again, the least first, in whatever order they were given back.
func TestLeastId(t *testing.T) {
	for _, order := range [][]int{{0, 1, 2}, {2, 1, 0}, {4, 1, 3}, {5}, {5, 4, 3, 2, 1, 0}, {0, 2, 4, 1, 3, 5}, {3, 0, 5, 1}} {
		m := newModel(t)
		for n := range 6 {
			m.take(n * 3)
		}
		for _, id := range order {
			m.give(id)
		}
		for n := range 8 {
			m.take(n * 5 % 11)
		}
	}
}

func TestLeastIdOfMany(t *testing.T) {
	s := store.New()
	const many = 3000
	for id := range many {
		wantTake(t, s, id%9, id, api.OK)
	}
	for i := range many { // 7 and many have no divisor in common: each once
		if id := i * 7 % many; id%3 != 1 {
			wantGive(t, s, id, api.OK)
		}
	}
	for id := range many {
		if id%3 != 1 {
			wantTake(t, s, id%10, id, api.OK)
		}
	}
	wantTake(t, s, 1, many, api.OK)
}

// Extents without bytes have Ids as all others do.
func TestNoBytes(t *testing.T) {
	m := newModel(t)
	for range 4 {
		m.take(0)
	}
	if m.s.Span() > 64 {
		t.Errorf("Span is %d", m.s.Span())
	}
	for id := range 4 {
		wantLoad(t, m.s, id, 0, 1, 0, api.ErrIndex)
		wantSave(t, m.s, id, 0, 8, 1, api.ErrIndex)
	}
	m.give(2)
	wantNoExtent(t, m.s, 2)
	m.give(0)
	m.take(6)
	m.take(0)
	m.take(16)
	m.give(1)
	m.give(0)
	m.take(0)
	m.pack()
}

// An extent that was given back and taken again is all 0, in the same length or another, packed in between or not.
func TestTakenAgainBlank(t *testing.T) {
	for _, first := range []int{1, 7, 8, 9, 24, 100} {
		for _, second := range []int{1, 7, 8, 9, 24, 100} {
			for _, packs := range []bool{false, true} {
				m := newModel(t)
				m.take(5)
				m.take(first)
				m.take(11)
				m.give(1)
				if packs {
					m.pack()
				}
				m.take(second) // looks whether it is blank, and fills it
				m.give(2)
				m.take(second)
				m.take(first)
			}
		}
	}
}
