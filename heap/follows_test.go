package heap_test

import (
	"slices"
	"testing"

	"casket/api"
)

// Promise 6.7, and R4: whatever was put, written and collected ahead.

// player does things by chance, with some of a heap's words as roots.
type player struct {
	*model
	chance
	roots []uint64
	given []uint64 // all that Put answered
}

func newPlayer(t *testing.T, seed, units int) *player {
	return &player{model: newModel(t, units), chance: chance(seed)}
}

// word is a word of any sort: mostly a cell's.
func (p *player) anyWord() uint64 {
	switch p.below(12) {
	case 0:
		return p.pick(strays)
	case 1:
		return p.pick(nobodys)
	case 2:
		return p.pick(p.given)
	case 3, 4, 5:
		return p.pick(plains)
	}
	return p.pick(p.model.words())
}

func (p *player) anyCell() api.Cell {
	kind := kinds[p.below(4)]
	n := p.below(30)
	switch p.below(7) {
	case 0:
		return number(int64(p.chance.word()))
	case 1:
		return text(string(mixed(n, n)))
	case 2:
		return buffer(kind, mixed(n, n)...)
	case 3:
		return buffer(kind, mixed(n, n/8*8)...)
	case 4:
		return view(kind, p.anyWord(), p.below(20)-1, p.below(6)-1)
	}
	var words []uint64
	for range p.below(6) {
		words = append(words, p.anyWord())
	}
	return row(words...)
}

// step does one thing.
func (p *player) step() {
	p.t.Helper()
	switch p.below(10) {
	case 0, 1, 2, 3:
		if w, e := p.put(p.anyCell(), p.roots...); e == api.OK {
			p.given = append(p.given, w)
			p.roots = append(p.roots, w)
		} else if e == api.ErrMemory {
			p.drop()
		}
	case 4, 5:
		p.set(p.anyWord(), p.below(6)-1, p.anyWord())
	case 6, 7:
		p.write(p.anyWord(), p.below(30)-1, someWidths[p.below(4)], p.chance.word())
		p.read(p.anyWord(), p.below(30)-1, someWidths[p.below(4)])
	case 8:
		p.drop()
	case 9:
		if p.below(4) == 0 {
			p.collect(p.roots...)
		}
	}
}

// drop forgets some roots.
func (p *player) drop() {
	keep := p.below(4)
	p.roots = slices.DeleteFunc(p.roots, func(uint64) bool { return p.below(4) >= keep })
}

func TestWhateverIsDone(t *testing.T) {
	for seed, units := range []int{0, 1, 2, 3, 5, 8, 13, 30, 60, 120, 300} {
		p := newPlayer(t, seed, units)
		for range 1500 {
			p.step()
		}
		p.look()
		p.collect(p.roots...)
	}
}

// A cell that is reached each time is the same, but for Set and Write.
func TestWhatIsReachedStays(t *testing.T) {
	p := newPlayer(t, 77, 80)
	b, _ := p.put(buffer(api.I16, mixed(1, 10)...))
	v, _ := p.put(view(api.U8, b, 1, 8), b)
	x, _ := p.put(text("what is reached stays"), v)
	n, _ := p.put(number(-1<<62), v, x)
	r, _ := p.put(row(v, x, n, small(5)), v, x, n)
	inner := []uint64{b, v, x, n, r}
	for range 2000 {
		p.roots = append(slices.DeleteFunc(p.roots, func(w uint64) bool { return slices.Contains(inner, w) }), r)
		if w, e := p.put(p.anyCell(), p.roots...); e == api.OK && p.below(3) > 0 {
			p.roots = append(p.roots, w)
		} else if p.below(2) == 0 {
			p.roots = nil
		}
		wantGet(t, p.h, b, buffer(api.I16, mixed(1, 10)...))
		wantGet(t, p.h, v, view(api.U8, b, 1, 8))
		wantGet(t, p.h, x, text("what is reached stays"))
		wantGet(t, p.h, n, number(-1<<62))
		wantGet(t, p.h, r, row(v, x, n, small(5)))
	}
}

// Two heaps have nothing to do with each other: each does what it does alone.
func TestTwoHeaps(t *testing.T) {
	one, other, alone := newPlayer(t, 1, 50), newPlayer(t, 2, 90), newPlayer(t, 1, 50)
	for i := range 1000 {
		if i%5 < 3 {
			one.step()
			other.look()
		} else {
			other.step()
			one.look()
		}
	}
	for range 600 {
		alone.step()
	}
	if !slices.Equal(one.given, alone.given) {
		t.Errorf("handles beside another heap: %x; alone: %x", one.given, alone.given)
	}
	wantHeld(t, one.h, alone.model.words()...)
}

// A word of one heap is nobody's in another that has not as many cells.
func TestWordsOfAnotherHeap(t *testing.T) {
	s := newSome(t)
	m := newModel(t, 100)
	for _, w := range s.all {
		wantNoGet(t, m.h, w)
		wantNoPut(t, m.h, api.ErrArg, row(w))
		wantNoPut(t, m.h, api.ErrArg, view(api.U8, w, 0, 0))
	}
	wantReach(t, m.h, 0, s.all...)
	m.look()
}
