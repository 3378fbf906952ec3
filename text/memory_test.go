package text_test

import (
	"slices"
	"testing"

	"casket/api"
	"casket/heap"
	"casket/text"
)

// Promise 8.3 (W8): what is made is put with roots, and with what is handed in. The model of concat and sub looks at what is held behind each call.

// joins are pairs of strings, by the cells that they stand in (those with inWord stand in none), with the units of these and of the new cell.
var joins = []struct {
	a, b             string
	inWordA, inWordB bool
	own, need        int
}{
	{"abcdefgh", "ijklmnop", false, false, 4, 3},
	{"abcdefgh", "i", false, true, 2, 3},
	{"a", "bcdefgh", true, false, 2, 2},
	{"abc", "def", true, true, 0, 2},
	{"abc", "def", false, false, 4, 2},
	{"", "abcdef", false, false, 3, 2},
	{"abcdef", "", false, true, 2, 2},
	{"many bytes of text", "\x00\xff and more of them", false, false, 8, 6},
}

// place is the word of a string, in a cell or not.
func place(t *testing.T, h *heap.Heap, s string, inWord bool, roots ...uint64) uint64 {
	t.Helper()
	if inWord {
		return shortWord(s)
	}
	return put(t, h, textCell(s), roots...)
}

// Nothing but the call reaches a and b: they stay, and count; all else goes, where units are lacking.
func TestMemoryOfConcat(t *testing.T) {
	for _, x := range joins {
		for lack := range 2 {
			h := newHeap(t, x.own+x.need-lack)
			a := place(t, h, x.a, x.inWordA)
			b := place(t, h, x.b, x.inWordB, a)
			fill(t, h, a, b)
			if lack == 0 {
				wantConcat(t, h, a, b, x.a+x.b)
			} else {
				wantNoConcat(t, h, a, b, api.ErrMemory)
				wantHeld(t, h, a, b)
			}
			wantOf(t, h, a, x.a)
			wantOf(t, h, b, x.b)
		}
	}
}

// fill puts cells that nothing will reach, until no unit is free.
func fill(t *testing.T, h *heap.Heap, keep ...uint64) {
	t.Helper()
	for needs(held(h)) < h.Room() {
		put(t, h, row(), append(words(held(h)), keep...)...)
	}
}

// wantHeld asks for just the cells of these words.
func wantHeld(t *testing.T, h *heap.Heap, keep ...uint64) {
	t.Helper()
	keep = slices.DeleteFunc(keep, func(w uint64) bool { return w>>48 != 0xfffb })
	slices.Sort(keep)
	if got := words(held(h)); !slices.Equal(got, slices.Compact(keep)) {
		t.Errorf("the heap holds %x; want %x", got, keep)
	}
}

// Roots reach more: that stays too, and counts; a and b among them, or in a row that they reach, count once.
func TestMemoryOfConcatWithRoots(t *testing.T) {
	for _, x := range joins {
		for lack := range 2 {
			h := newHeap(t, x.own+9+x.need-lack)
			a := place(t, h, x.a, x.inWordA)
			b := place(t, h, x.b, x.inWordB, a)
			base := put(t, h, buffer(api.U8, 1, 2, 3), a, b)
			v := put(t, h, view(api.U8, base, 1, 2), a, b, base)
			r := put(t, h, row(v, a, smallWord(1)), a, b)
			n := put(t, h, number(7), r, b)
			fill(t, h)
			roots := []uint64{r, n, nilWord, a, smallWord(3), strays[0], nobodys[0], api.Canon, r}
			if lack == 0 {
				wantConcat(t, h, a, b, x.a+x.b, roots...)
			} else {
				wantNoConcat(t, h, a, b, api.ErrMemory, roots...)
				wantHeld(t, h, a, b, base, v, r, n)
			}
			wantOf(t, h, a, x.a)
			wantOf(t, h, b, x.b)
		}
	}
}

// A string with itself counts once.
func TestMemoryOfConcatWithItself(t *testing.T) {
	for lack := range 2 {
		h := newHeap(t, 5-lack)
		w := put(t, h, textCell("abcdefgh"))
		fill(t, h, w)
		if lack == 0 {
			wantConcat(t, h, w, w, "abcdefghabcdefgh")
		} else {
			wantNoConcat(t, h, w, w, api.ErrMemory)
			wantHeld(t, h, w)
		}
		wantOf(t, h, w, "abcdefgh")
	}
}

func TestMemoryOfSub(t *testing.T) {
	whole := "many bytes of text" // four units
	for _, x := range []struct {
		i, j int64
		need int
	}{{0, 6, 2}, {5, 13, 2}, {5, 14, 3}, {0, 18, 4}, {2, 18, 3}, {1, 18, 4}} {
		for lack := range 2 {
			for _, rooted := range []bool{false, true} {
				h := newHeap(t, 4+4+x.need-lack)
				w := put(t, h, textCell(whole))
				r := put(t, h, row(w, nilWord, w), w)
				fill(t, h, w, r)
				var roots []uint64
				if rooted {
					roots = []uint64{nilWord, r}
				}
				if lack == 0 || !rooted {
					wantSub(t, h, w, x.i, x.j, whole[x.i:x.j], roots...)
				} else {
					wantNoSub(t, h, w, x.i, x.j, api.ErrMemory, roots...)
					wantHeld(t, h, w, r)
				}
				wantOf(t, h, w, whole)
			}
		}
	}
}

// With no roots at all the string itself is held, and alone.
func TestMemoryOfSubAlone(t *testing.T) {
	for lack := range 2 {
		h := newHeap(t, 5-lack)
		w := put(t, h, textCell("123456789"))
		fill(t, h, w)
		if lack == 0 {
			wantSub(t, h, w, 1, 9, "23456789")
		} else {
			wantNoSub(t, h, w, 1, 9, api.ErrMemory)
			wantHeld(t, h, w)
		}
		wantOf(t, h, w, "123456789")
	}
}

// A short string that stands in a cell is held as well, though it is in nobody's way as a word.
func TestMemoryOfShortStringsInCells(t *testing.T) {
	h := newHeap(t, 4)
	a := put(t, h, textCell("ab"))
	fill(t, h, a)
	wantConcat(t, h, a, shortWord("cdef"), "abcdef")
	fill(t, h, a)
	b := put(t, h, textCell("cdefghi"), a)
	wantNoConcat(t, h, a, b, api.ErrMemory) // it needs three units
	wantHeld(t, h, a, b)
	wantConcat(t, h, shortWord("ab"), shortWord("cdefg"), "abcdefg")
}

// What a word holds needs no unit, and sweeps nothing, however full the heap is.
func TestMemoryOfShortResults(t *testing.T) {
	h := newHeap(t, 7)
	a := put(t, h, textCell("ab"))
	b := put(t, h, textCell("cde"), a)
	fill(t, h, a, b)
	wantConcat(t, h, a, b, "abcde")
	wantSub(t, h, b, 1, 3, "de")
	wantConcat(t, newHeap(t, 0), shortWord("ab"), shortWord("cde"), "abcde")
	wantSub(t, newHeap(t, 0), shortWord("hello"), 0, 5, "hello")
	wantNoConcat(t, newHeap(t, 0), shortWord("abc"), shortWord("def"), api.ErrMemory)
	wantNoConcat(t, newHeap(t, 1), shortWord("abc"), shortWord("def"), api.ErrMemory)
	wantFull(t, h)
}

// R3: roots with spare room behind them, with a handle in it: that is neither held nor written over.
func TestMemoryRootsEnd(t *testing.T) {
	for _, x := range []struct {
		s     string
		units int // of it, of the new cell, and of the one root
		call  func(h *heap.Heap, w uint64, roots []uint64) (uint64, api.Errno)
	}{
		{"abcdefgh", 2 + 3 + 1, func(h *heap.Heap, w uint64, roots []uint64) (uint64, api.Errno) {
			return text.Concat(h, w, shortWord("i"), roots)
		}},
		{"abcdefghi", 3 + 3 + 1, func(h *heap.Heap, w uint64, roots []uint64) (uint64, api.Errno) {
			return text.Sub(h, w, 0, 9, roots)
		}},
	} {
		for lack, want := range []api.Errno{api.OK, api.ErrMemory} {
			h := newHeap(t, x.units-lack)
			w := put(t, h, textCell(x.s))
			kept := put(t, h, row(), w)
			loose := put(t, h, row(), w, kept)
			list := []uint64{kept, loose, loose, loose, loose}
			made, e := x.call(h, w, list[:1])
			if e != want || (made != 0) != (want == api.OK) {
				t.Fatalf("of %q in %d units: %x, %d; want %d", x.s, h.Room(), made, e, want)
			}
			if want == api.OK {
				wantOf(t, h, made, "abcdefghi")
				wantHeld(t, h, w, kept, made)
			} else {
				wantHeld(t, h, w, kept)
			}
			wantOf(t, h, w, x.s)
			if was := []uint64{kept, loose, loose, loose, loose}; !slices.Equal(list, was) {
				t.Errorf("the roots %x have become %x", was, list)
			}
		}
	}
}

// The roots are not kept: what they were has no say later on.
func TestMemoryRootsAreNotKept(t *testing.T) {
	h := newHeap(t, 4)
	n := put(t, h, number(1))
	roots := []uint64{n}
	w, e := text.Concat(h, shortWord("abc"), shortWord("def"), roots)
	if e != api.OK {
		t.Fatalf("Concat is %d", e)
	}
	wantNoSub(t, h, w, 0, 6, api.ErrMemory, n)
	roots[0] = nilWord
	x := wantSub(t, h, w, 0, 6, "abcdef")
	wantOf(t, h, w, "abcdef")
	wantOf(t, h, x, "abcdef")
}

// Nor is what was handed in: behind the call it goes as soon as nothing reaches it.
func TestMemoryOfWhatWasHandedIn(t *testing.T) {
	h := newHeap(t, 5)
	a := put(t, h, textCell("abcdefgh"))
	w := wantConcat(t, h, a, a, "abcdefghabcdefgh")
	h.Collect([]uint64{w})
	wantHeld(t, h, w)
	part := wantSub(t, h, w, 8, 16, "abcdefgh")
	h.Collect([]uint64{part})
	wantHeld(t, h, part)
}
