package store_test

import (
	"testing"

	"casket/api"
	"casket/store"
)

// Promise 5.2: the model looks behind each call at where extents lie, at Used and at Span.

func TestLieByHand(t *testing.T) {
	m := newModel(t)
	for _, n := range []int{8, 1, 0, 16, 7, 9, 0, 3} {
		m.take(n)
	}
	for _, id := range []int{1, 3, 6, 0, 7, 2, 4, 5} {
		m.give(id)
		m.give(id)
	}
	for _, n := range []int{40, 0, 100, 1} {
		m.take(n)
	}
}

// Extents are given back one by one with others between them, and the gaps are of lengths that do not fit or just fit what is taken next.
func TestLieInGaps(t *testing.T) {
	for name, length := range map[string]func(i int) int{
		"same":    func(i int) int { return 8 },
		"rising":  func(i int) int { return i },
		"falling": func(i int) int { return 60 - i%60 },
		"mixed":   func(i int) int { return i * 37 % 51 },
		"steep":   func(i int) int { return 1 << (i % 9) },
		"few":     func(i int) int { return (i % 4) / 3 * 64 },
	} {
		t.Run(name, func(t *testing.T) {
			m := newModel(t)
			for i := range 40 {
				m.take(length(i))
			}
			for round := 1; round < 5; round++ {
				for i, id := range m.ids() {
					if i%(round+1) != 0 {
						m.give(id)
					}
				}
				for i := range 30 {
					m.take(length(30*round + 30 - i))
				}
			}
		})
	}
}

// First in, first out: the row's beginning becomes free while its end grows.
func TestLieInQueue(t *testing.T) {
	m := newModel(t)
	var queue []int
	for i := range 600 {
		queue = append(queue, m.take(i*13%29))
		if len(queue) > 9 {
			m.give(queue[0])
			queue = queue[1:]
		}
	}
}

// Last in, first out.
func TestLieInPile(t *testing.T) {
	m := newModel(t)
	var pile []int
	for i := range 600 {
		if i%7 < 4 || len(pile) == 0 {
			pile = append(pile, m.take(i*11%40))
		} else {
			m.give(pile[len(pile)-1])
			pile = pile[:len(pile)-1]
		}
		for len(pile) > 12 {
			m.give(pile[0])
			pile = pile[1:]
		}
	}
}

// Each one is a little longer than all gaps: the row has to be moved together, or its bound is broken.
func TestLieLonger(t *testing.T) {
	m := newModel(t)
	kept := []int{}
	for n := 1; n < 400; n++ {
		wall := m.take(8)
		m.give(m.take(n))
		kept = append(kept, wall)
		if len(kept) > 5 {
			m.give(kept[0])
			kept = kept[1:]
		}
	}
}

// Long and short ones in turns, with little left of the row's end.
func TestLieLongAndShort(t *testing.T) {
	m := newModel(t)
	m.take(64)
	for range 20 {
		m.take(8)
	}
	m.give(0)
	for i := range 200 {
		a := m.take(64)
		b := m.take(8 + i%3)
		m.give(a)
		m.give(b)
	}
}

// Behind a time of many bytes the bound is what it was.
func TestLieBehindMany(t *testing.T) {
	m := newModel(t)
	for i := range 30 {
		m.take(20 + i)
	}
	for _, id := range m.ids() {
		m.give(id)
	}
	for i := range 300 {
		m.take(i % 10)
		if i > 3 {
			m.give(m.ids()[i%4])
		}
	}
}

func TestLieByChance(t *testing.T) {
	for seed := range 12 {
		m := newModel(t)
		c := chance(seed)
		for range 250 {
			switch n := c.below(10); {
			case n < 5:
				m.take(c.below(1 + 10*(seed%6)))
			case n < 9:
				m.give(c.below(10 + 2*seed))
			default:
				m.pack()
			}
		}
	}
}

// Greatest extents: the bound is of their size.
func TestLieGreatest(t *testing.T) {
	s := store.New()
	used, greatest := 0, 0
	look := func() {
		t.Helper()
		wantUsed(t, s, used)
		end := 0
		for x := range s.Extents() {
			if x.At%8 != 0 || x.At < end || x.At+x.Len > s.Span() {
				t.Fatal(x, end, s.Span())
			}
			end = x.At + x.Len
		}
		if s.Span() < used || s.Span() > 2*greatest+64 {
			t.Fatal(s.Span(), used, greatest)
		}
	}
	for i := range 30 {
		n := api.MaxBytes - i%2*(api.MaxBytes/2+1)
		id, e := s.Take(n)
		if e != api.OK {
			t.Fatal(e)
		}
		used += rounded(n)
		greatest = max(greatest, used)
		wantSave(t, s, id, n-1, 1, uint64(i+1), api.OK)
		look()
		if i >= 2 {
			gone := (id + 1) % 3
			n, _ := s.Len(gone)
			wantGive(t, s, gone, api.OK)
			used -= rounded(n)
			look()
		}
	}
}

// As many as a heap may have cells: what a call costs may not grow with them.
func TestLieMany(t *testing.T) {
	s := store.New()
	const many = 1 << 18
	used, greatest := 0, 0
	take := func(want, n int) {
		wantTake(t, s, n, want, api.OK)
		used += rounded(n)
		greatest = max(greatest, used)
		if s.Used() != used || s.Span() > 2*greatest+64 {
			t.Fatal(want, s.Used(), used, s.Span(), greatest)
		}
	}
	for id := range many {
		take(id, 1+id%16)
		wantSave(t, s, id, 0, 1, uint64(id), api.OK)
	}
	for round := range 4 {
		for id := round % 2; id < many; id += 2 {
			n, _ := s.Len(id)
			wantGive(t, s, id, api.OK)
			used -= rounded(n)
		}
		for id := round % 2; id < many; id += 2 {
			take(id, 1+(id+5*round)%24)
			wantLoad(t, s, id, 0, 1, 0, api.OK)
			wantSave(t, s, id, 0, 1, uint64(id), api.OK)
		}
	}
	for id := range many {
		wantLoad(t, s, id, 0, 1, uint64(id)&0xff, api.OK)
	}
}
