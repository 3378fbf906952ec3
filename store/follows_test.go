package store_test

import (
	"testing"

	"casket/api"
)

// Promise 5.6, and R4: whatever is done, bytes are what was saved last, or 0.

// do does one thing by chance.
func do(m *model, c *chance, longest int) {
	switch n := c.below(20); {
	case n < 5:
		m.take(c.below(longest))
	case n < 9:
		m.give(c.below(14))
	case n < 10:
		m.pack()
	default:
		ids := m.ids()
		if len(ids) == 0 {
			return
		}
		width := widths[c.below(4)]
		off := c.below(longest+8)/width*width - c.below(2)
		tryBytes(m, ids[c.below(len(ids))], off, width, c.word())
	}
}

func TestWhateverIsDone(t *testing.T) {
	for seed, longest := range []int{1, 9, 17, 40, 100, 300} {
		m := newModel(t)
		c := chance(seed + 100)
		for range 500 {
			do(m, &c, longest)
		}
	}
}

// Two stores have nothing to do with each other.
func TestTwoStores(t *testing.T) {
	one, other := newModel(t), newModel(t)
	c, d := chance(1), chance(2)
	for i := range 500 {
		if i%5 < 3 {
			do(one, &c, 30)
			other.look()
		} else {
			do(other, &d, 50)
			one.look()
		}
	}
	alone := newModel(t)
	c = chance(1)
	for range 300 {
		do(alone, &c, 30)
	}
	if alone.s.Used() != one.s.Used() || alone.s.Span() != one.s.Span() {
		t.Error(alone.s.Used(), one.s.Used(), alone.s.Span(), one.s.Span())
	}
}

// What is saved in one extent is in no other, however they were moved.
func TestOwnBytesAlone(t *testing.T) {
	m := newModel(t)
	for i := range 12 {
		m.take(5 + i*3)
	}
	for round := range 12 {
		m.give(round)
		for _, id := range m.ids() {
			for off := range m.have[id] {
				m.save(id, off, 1, uint64(round*16+id))
			}
			m.look()
		}
		if round%4 == 3 {
			m.pack()
		}
		m.take(3 + round*5)
	}
	wantSave(t, m.s, 99, 0, 1, 1, api.ErrPlace)
	m.look()
}
