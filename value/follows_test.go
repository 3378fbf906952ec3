package value_test

import (
	"slices"
	"testing"

	"casket/api"
	"casket/heap"
	"casket/value"
)

// Promise 7.5 (W1), and R4: there and back.

// backFrom is what Unbox of Box(v) must be.
func backFrom(v api.Value) api.Value {
	v.Bits = canonical(v.Bits)
	return v
}

func TestThereAndBack(t *testing.T) {
	s := newSample(t, 3000)
	all := rights(t, s)
	for _, i := range slices.Concat(smalls, greats) {
		all = append(all, ofInt(i))
	}
	for _, bits := range slices.Concat(doubles, otherNaNs) {
		all = append(all, ofFloat(bits))
	}
	for _, x := range slices.Concat(shorts, longs) {
		all = append(all, ofText(x))
	}
	roots := words(s.cells)
	for _, v := range all {
		w, e := box(t, s.h, v, roots...)
		if e != api.OK {
			t.Fatalf("Box(%s) is %d", tell(v), e)
		}
		wantUnbox(t, s.h, w, backFrom(v))
		roots = append(roots, w)
	}
	for i, w := range roots[len(s.cells):] {
		wantUnbox(t, s.h, w, backFrom(all[i]))
	}
}

// player boxes by chance, and remembers what must come out.
type player struct {
	chance
	h      *heap.Heap
	roots  []uint64
	values map[uint64]api.Value // by word
}

func newPlayer(t *testing.T, seed, units int) *player {
	return &player{chance: chance(seed), h: newHeap(t, units), values: map[uint64]api.Value{}}
}

func (p *player) anyValue() api.Value {
	x := p.word()
	switch p.below(12) {
	case 0:
		return ofNil()
	case 1:
		return ofBool(int64(p.below(4)) - 1)
	case 2:
		return ofFloat(x)
	case 3:
		return ofFloat(x | 0x7ff<<52)
	case 4, 5:
		return ofInt(int64(x))
	case 6:
		return ofInt(int64(x) >> p.below(64))
	case 7, 8, 9:
		b := make([]byte, p.below(20))
		for i := range b {
			b[i] = byte(p.word())
		}
		return ofText(string(b))
	case 10:
		return api.Value{Kind: p.below(14) - 2, Int: int64(p.below(2)), Ref: x}
	}
	if len(p.roots) == 0 {
		return ofThing(api.Row, x)
	}
	return ofThing(things[p.below(len(things))], p.roots[p.below(len(p.roots))])
}

// step boxes something, puts a thing, or forgets some of the roots.
func (p *player) step(t *testing.T) {
	t.Helper()
	switch p.below(8) {
	case 0:
		c := []api.Cell{row(p.roots[:p.below(len(p.roots)+1)]...), buffer(buffers[p.below(4)], make([]byte, 8*p.below(3))...)}[p.below(2)]
		if w, e := p.h.Put(c, p.roots); e == api.OK {
			p.remember(w, ofThing(c.Kind, w))
		}
	case 1:
		p.forget()
		p.h.Collect(p.roots)
	default:
		v := p.anyValue()
		w, e := box(t, p.h, v, p.roots...)
		if e == api.OK {
			p.remember(w, backFrom(v))
		} else if e == api.ErrMemory {
			p.forget()
		}
	}
	for w, v := range p.values {
		wantUnbox(t, p.h, w, v)
	}
}

func (p *player) remember(w uint64, v api.Value) {
	p.roots = append(p.roots, w)
	p.values[w] = v
}

func (p *player) forget() {
	p.roots = slices.DeleteFunc(p.roots, func(uint64) bool { return p.below(3) == 0 })
	kept := map[uint64]api.Value{}
	for _, w := range p.roots {
		kept[w] = p.values[w]
	}
	p.values = kept
}

func TestThereAndBackOfLongLists(t *testing.T) {
	for seed, units := range []int{0, 1, 2, 3, 5, 10, 30, 100, 400} {
		p := newPlayer(t, seed, units)
		for range 800 {
			p.step(t)
		}
	}
}

// Many values at once, with collections between that leave each second one.
func TestThereAndBackBesideCollections(t *testing.T) {
	h := newHeap(t, 1<<16)
	c := chance(9)
	var roots []uint64
	var values []api.Value
	for round := range 5 {
		for range 2000 {
			v := ofInt(int64(c.word()))
			if c.below(2) == 0 {
				v = ofText(string(make([]byte, c.below(40))))
			}
			w, e := value.Box(h, v, roots)
			if e != api.OK {
				t.Fatalf("Box(%s) is %d", tell(v), e)
			}
			roots, values = append(roots, w), append(values, v)
		}
		n := 0
		for i := range roots {
			if (i+round)%2 == 0 {
				roots[n], values[n] = roots[i], values[i]
				n++
			}
		}
		roots, values = roots[:n], values[:n]
		h.Collect(roots)
		for i, w := range roots {
			wantUnbox(t, h, w, values[i])
		}
	}
}

// Two heaps have nothing to do with each other: each does what it does alone.
func TestTwoHeaps(t *testing.T) {
	one, other, alone := newPlayer(t, 1, 50), newPlayer(t, 2, 90), newPlayer(t, 1, 50)
	for i := range 1000 {
		if i%5 < 3 {
			one.step(t)
		} else {
			other.step(t)
		}
	}
	for range 600 {
		alone.step(t)
	}
	if !slices.Equal(one.roots, alone.roots) {
		t.Errorf("words beside another heap: %x; alone: %x", one.roots, alone.roots)
	}
	for w, v := range one.values {
		wantUnbox(t, one.h, w, v)
	}
}
