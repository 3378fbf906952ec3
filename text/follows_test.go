package text_test

import (
	"slices"
	"strings"
	"testing"

	"casket/api"
	"casket/heap"
	"casket/text"
	"casket/value"
)

// Promise 8.4 (W1), and R4: parts of what was put together; strings in words and in cells; long lists of calls.

// wantJoined puts a and b together, and asks for their length and their parts back.
func wantJoined(t *testing.T, h *heap.Heap, a, b uint64, roots ...uint64) {
	t.Helper()
	parts, e := stringsOf(h, a, b)
	if e != api.OK {
		t.Fatalf("%x, %x are no strings: %d", a, b, e)
	}
	n, m := int64(len(parts[0])), int64(len(parts[1]))
	w := wantConcat(t, h, a, b, parts[0]+parts[1], roots...)
	wantLen(t, h, w, int(n+m))
	roots = append(slices.Clone(roots), a, b, w)
	h.Collect(roots)
	ahead := wantSub(t, h, w, 0, n, parts[0], roots...)
	h.Collect(append(roots, ahead))
	behind := wantSub(t, h, w, n, n+m, parts[1], append(roots, ahead)...)
	h.Collect(append(roots, ahead, behind))
	wantOf(t, h, ahead, parts[0])
	wantOf(t, h, behind, parts[1])
	wantCompare(t, h, ahead, a, 0)
	wantCompare(t, h, behind, b, 0)
}

func TestPartsOfConcat(t *testing.T) {
	for _, x := range slices.Concat(shorts, longs) {
		for _, y := range slices.Concat(shorts, longs) {
			h := newHeap(t, 80)
			as := both(t, h, x)
			bs := both(t, h, y, as...)
			for _, a := range as {
				for _, b := range bs {
					wantJoined(t, h, a, b, slices.Concat(as, bs)...)
				}
			}
		}
	}
}

// Every answer of a string in its word is the one of the same string in a cell.
func TestInWordAndInCell(t *testing.T) {
	h := newHeap(t, 100)
	for _, s := range shorts {
		inCell := put(t, h, textCell(s))
		inWord := shortWord(s)
		for i := int64(-1); i <= 6; i++ {
			b, e := text.Byte(h, inWord, i)
			if c, f := text.Byte(h, inCell, i); b != c || e != f {
				t.Errorf("Byte(%q, %d): %d, %d in a word; %d, %d in a cell", s, i, b, e, c, f)
			}
			for j := int64(-1); j <= 6; j++ {
				x, e := text.Sub(h, inWord, i, j, nil)
				if y, f := text.Sub(h, inCell, i, j, []uint64{inCell}); x != y || e != f {
					t.Errorf("Sub(%q, %d, %d): %x, %d in a word; %x, %d in a cell", s, i, j, x, e, y, f)
				}
			}
		}
		for _, other := range slices.Concat(shorts, longs) {
			b := put(t, h, textCell(other), inCell)
			wantAlike(t, h, inWord, inCell, b)
		}
		wantCompare(t, h, inWord, inCell, 0)
		wantCompare(t, h, inCell, inWord, 0)
	}
}

// wantAlike asks of two words of one string the same beside a third one.
func wantAlike(t *testing.T, h *heap.Heap, a, b, other uint64) {
	t.Helper()
	keep := []uint64{a, b, other}
	for _, pair := range [][2][2]uint64{{{a, other}, {b, other}}, {{other, a}, {other, b}}} {
		c, _ := text.Compare(h, pair[0][0], pair[0][1])
		wantCompare(t, h, pair[1][0], pair[1][1], c)
		x, _ := text.Concat(h, pair[0][0], pair[0][1], keep)
		y, _ := text.Concat(h, pair[1][0], pair[1][1], append(keep, x))
		if same, e := value.Same(h, x, y); !same || e != api.OK {
			t.Fatalf("Concat of %x is %x, of %x %x", pair[0], x, pair[1], y)
		}
	}
}

// player works with strings by chance, and remembers what they are.
type player struct {
	chance
	h       *heap.Heap
	roots   []uint64
	strings map[uint64]string // by word
}

func newPlayer(t *testing.T, seed, units int) *player {
	return &player{chance: chance(seed), h: newHeap(t, units), strings: map[uint64]string{}}
}

// others are words that need no cell.
var others = slices.Concat(plains, strays, nobodys)

// pick is some word: mostly a string that is held, at times another one, or none at all.
func (p *player) pick() (uint64, string) {
	if i := p.below(20); i == 0 {
		return others[p.below(len(others))], ""
	} else if i < 5 || len(p.roots) == 0 {
		s := shorts[p.below(len(shorts))]
		return shortWord(s), s
	}
	w := p.roots[p.below(len(p.roots))]
	return w, p.strings[w]
}

func (p *player) step(t *testing.T) {
	t.Helper()
	switch p.below(10) {
	case 0, 1:
		p.place()
	case 2:
		p.forget()
		p.h.Collect(p.roots)
	case 3, 4, 5:
		p.join(t)
	default:
		p.cut(t)
	}
	for _, w := range p.roots {
		wantOf(t, p.h, w, p.strings[w])
		wantLen(t, p.h, w, len(p.strings[w]))
	}
	if len(p.roots) > 1 {
		a, b := p.roots[p.below(len(p.roots))], p.roots[p.below(len(p.roots))]
		wantCompare(t, p.h, a, b, strings.Compare(p.strings[a], p.strings[b]))
	}
}

// place puts a string into a cell, however short it is.
func (p *player) place() {
	b := make([]byte, p.below(24))
	for i := range b {
		b[i] = "\x00\x01abc\x7f\x80\xff"[p.below(8)]
	}
	w, e := p.h.Put(textCell(string(b)), p.roots)
	p.remember(w, e, string(b))
}

// join puts two together; at times they are forgotten ahead of it, so that nothing but the call reaches them.
func (p *player) join(t *testing.T) {
	t.Helper()
	a, x := p.pick()
	b, y := p.pick()
	p.maybeForget()
	w, e := concat(t, p.h, a, b, p.roots...)
	p.remember(w, e, x+y)
}

func (p *player) cut(t *testing.T) {
	t.Helper()
	a, x := p.pick()
	i, j := p.below(len(x)+2)-p.below(2), p.below(len(x)+2)
	p.maybeForget()
	w, e := sub(t, p.h, a, int64(i), int64(j), p.roots...)
	if e == api.OK {
		x = x[i:j]
	}
	p.remember(w, e, x)
}

// remember keeps a string, if it is not so long that soon there would be no other.
func (p *player) remember(w uint64, e api.Errno, s string) {
	if e == api.ErrMemory {
		p.forget()
	}
	if e == api.OK && len(s) < 300 {
		p.roots = append(p.roots, w)
		p.strings[w] = s
	}
}

func (p *player) maybeForget() {
	if p.below(2) == 0 {
		p.forget()
	}
}

func (p *player) forget() {
	p.roots = slices.DeleteFunc(p.roots, func(uint64) bool { return p.below(3) == 0 })
	kept := map[uint64]string{}
	for _, w := range p.roots {
		kept[w] = p.strings[w]
	}
	p.strings = kept
}

func TestLongLists(t *testing.T) {
	for seed, units := range []int{0, 1, 2, 3, 5, 10, 30, 100, 400} {
		p := newPlayer(t, seed, units)
		for range 1000 {
			p.step(t)
		}
	}
}

// Two heaps have nothing to do with each other: each does what it does alone.
func TestTwoHeaps(t *testing.T) {
	one, other, alone := newPlayer(t, 1, 50), newPlayer(t, 2, 90), newPlayer(t, 1, 50)
	for i := range 1000 {
		if i%5 < 3 {
			one.step(t)
		} else {
			other.step(t)
		}
	}
	for range 600 {
		alone.step(t)
	}
	if !slices.Equal(one.roots, alone.roots) {
		t.Errorf("words beside another heap: %x; alone: %x", one.roots, alone.roots)
	}
	for w, s := range one.strings {
		wantOf(t, one.h, w, s)
	}
}
