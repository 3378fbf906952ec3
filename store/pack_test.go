package store_test

import (
	"slices"
	"testing"

	"casket/api"
	"casket/store"
)

// Promise 5.4: model.pack holds what lies where behind Pack against what lay where ahead of it.

func TestPackNone(t *testing.T) {
	m := newModel(t)
	m.pack()
	m.pack()
	m.take(5)
	m.give(0)
	m.pack()
	m.take(9)
}

func TestPackOne(t *testing.T) {
	for _, n := range []int{0, 1, 7, 8, 9, 40} {
		for gone := range 40 {
			m := newModel(t)
			m.take(gone)
			m.take(n)
			m.give(0)
			m.pack()
			if want := []api.Extent{{Id: 1, Len: n}}; !slices.Equal(extents(m.s), want) {
				t.Fatal(extents(m.s))
			}
			m.pack()
		}
	}
}

// In a row in which nothing was given back, all extents lie as they were taken, or in another order; packed they have no gap.
func TestPackByHand(t *testing.T) {
	m := newModel(t)
	for _, n := range []int{3, 8, 9, 17, 1} {
		m.take(n)
	}
	m.give(1)
	m.give(3)
	m.pack()
	if m.s.Span() != 8+16+8 {
		t.Fatal(m.s.Span())
	}
	ends := []int{}
	for x := range m.s.Extents() {
		ends = append(ends, x.At, x.At+rounded(x.Len))
	}
	if ends[0] != 0 || ends[1] != ends[2] || ends[3] != ends[4] || ends[5] != m.s.Span() {
		t.Fatal(ends)
	}
}

func TestPackManyWithGaps(t *testing.T) {
	for every := 1; every < 6; every++ {
		for first := range every {
			m := newModel(t)
			for i := range 25 {
				m.take(i * 7 % 20)
			}
			for id := first; id < 25; id += every {
				m.give(id)
			}
			m.pack()
			once := extents(m.s)
			m.pack()
			if twice := extents(m.s); !slices.Equal(once, twice) {
				t.Fatalf("packed twice: %v; once: %v", twice, once)
			}
			m.take(30)
			m.take(0)
			m.take(8)
			m.pack()
		}
	}
}

// Extents without bytes keep their places in the order.
func TestPackNoBytes(t *testing.T) {
	for gone := range 1 << 6 {
		m := newModel(t)
		for _, n := range []int{0, 8, 0, 5, 0, 16} {
			m.take(n)
		}
		for id := range 6 {
			if gone>>id&1 != 0 {
				m.give(id)
			}
		}
		m.pack()
		m.pack()
		m.take(0)
		m.take(24)
		m.take(0)
		m.pack()
		m.pack()
	}
}

// A store that is packed goes on as any other.
func TestPackAndGoOn(t *testing.T) {
	m := newModel(t)
	c := chance(3)
	for i := range 200 {
		m.take(c.below(50))
		m.give(c.below(8))
		if i%3 == 0 {
			m.pack()
		}
	}
}

func TestPackGreatest(t *testing.T) {
	s := store.New()
	for id := range 3 {
		wantTake(t, s, api.MaxBytes-id, id, api.OK)
		wantSave(t, s, id, 0, 8, uint64(id+1), api.OK)
		wantSave(t, s, id, api.MaxBytes-id-1, 1, uint64(id+7), api.OK)
	}
	first := extents(s)[0].Id
	wantGive(t, s, first, api.OK)
	s.Pack()
	if s.Span() != 2*api.MaxBytes || s.Used() != 2*api.MaxBytes {
		t.Fatal(s.Span(), s.Used())
	}
	for id := range 3 {
		if id != first {
			wantLoad(t, s, id, api.MaxBytes-id-1, 1, uint64(id+7), api.OK)
			wantLoad(t, s, id, 0, 4, uint64(id+1), api.OK)
			wantLoad(t, s, id, 8, 8, 0, api.OK)
		}
	}
}
