package value_test

import (
	"slices"
	"strings"
	"testing"

	"casket/api"
)

// Promise 7.4: Same.

// plainWords are words that hold all of their values, no two of one value.
func plainWords() []uint64 {
	all := slices.Concat([]uint64{nilWord, falseWord, trueWord}, doubles)
	for _, i := range smalls {
		all = append(all, smallWord(i))
	}
	for _, s := range shorts {
		all = append(all, shortWord(s))
	}
	return all
}

// Each word is the same as itself alone: each pair of kinds.
func TestSamePlain(t *testing.T) {
	h := newHeap(t, 0)
	all := plainWords()
	for i, a := range all {
		for j, b := range all {
			wantSame(t, h, a, b, i == j)
		}
	}
}

// Doubles are the same by their patterns, and never as whole numbers.
func TestSameDoubles(t *testing.T) {
	h := newHeap(t, 100)
	wantSame(t, h, 0, 1<<63, false)
	wantSame(t, h, api.Canon, api.Canon, true)
	wantSame(t, h, 0x7ff0000000000000, 0xfff0000000000000, false)
	wantSame(t, h, smallWord(1), 0x3ff0000000000000, false)
	wantSame(t, h, smallWord(0), 0, false)
	wantSame(t, h, smallWord(0), 1<<63, false)
	great := put(t, h, number(1<<60))
	wantSame(t, h, great, 0x43b0000000000000, false)
	wantSame(t, h, 0x43b0000000000000, great, false)
	wantSame(t, h, great, 1<<60, false)
	wantSame(t, h, put(t, h, number(5), great), 5, false)
}

// Whole numbers and strings by what they are: in two cells, in a cell and a word of its own.
func TestSameInCells(t *testing.T) {
	h := newHeap(t, 4000)
	var ints, texts []uint64
	for range 2 {
		for _, i := range slices.Concat(smalls, greats) {
			ints = append(ints, put(t, h, number(i), slices.Concat(ints, texts)...))
		}
		for _, s := range slices.Concat(shorts, longs) {
			texts = append(texts, put(t, h, text(s), slices.Concat(ints, texts)...))
		}
	}
	for i, a := range ints {
		for j, b := range ints {
			wantSame(t, h, a, b, i%(len(ints)/2) == j%(len(ints)/2))
		}
		for j, n := range smalls {
			wantSame(t, h, a, smallWord(n), i%(len(ints)/2) == j)
			wantSame(t, h, smallWord(n), a, i%(len(ints)/2) == j)
		}
	}
	for i, a := range texts {
		for j, b := range texts {
			wantSame(t, h, a, b, i%(len(texts)/2) == j%(len(texts)/2))
		}
		for j, s := range shorts {
			wantSame(t, h, a, shortWord(s), i%(len(texts)/2) == j)
			wantSame(t, h, shortWord(s), a, i%(len(texts)/2) == j)
		}
		wantSame(t, h, a, ints[i%len(ints)], false)
		wantSame(t, h, ints[i%len(ints)], a, false)
	}
}

// Strings that differ in one byte, wherever it stands, or in length.
func TestSameLongTexts(t *testing.T) {
	h := newHeap(t, 1000)
	base := strings.Repeat("ab\x00\xff", 10)
	a := put(t, h, text(base))
	for i := range base {
		other := base[:i] + "z" + base[i+1:]
		b := put(t, h, text(other), a)
		wantSame(t, h, a, b, false)
		wantSame(t, h, b, a, false)
		wantSame(t, h, a, put(t, h, text(base[:i]), a), false)
	}
	wantSame(t, h, a, put(t, h, text(base+"\x00"), a), false)
	wantSame(t, h, a, put(t, h, text(base), a), true)
}

// Things by their handles: neither by what they have nor by what they are of.
func TestSameThings(t *testing.T) {
	h := newHeap(t, 300)
	var all []uint64
	add := func(c api.Cell) uint64 {
		all = append(all, put(t, h, c, all...))
		return all[len(all)-1]
	}
	for range 2 {
		for _, kind := range buffers {
			b := add(buffer(kind, 1, 2, 3, 4, 5, 6, 7, 8))
			add(buffer(kind))
			add(view(kind, b, 0, 8/widths[kind]))
			add(view(kind, b, 0, 8/widths[kind]))
			add(view(api.U8, b, 0, 0))
		}
		r := add(row())
		add(row(r))
		add(row(nilWord, smallWord(1)))
	}
	for i, a := range all {
		for j, b := range all {
			wantSame(t, h, a, b, i == j)
		}
	}
	// Nor are they the same as a number, a string, or the pattern of their handle.
	for _, a := range all {
		for _, b := range plainWords() {
			wantSame(t, h, a, b, false)
			wantSame(t, h, b, a, false)
		}
		wantSame(t, h, a, a&(1<<48-1), false)
		wantSame(t, h, a, smallWord(int64(a&(1<<47-1))), false)
	}
	cell := put(t, h, number(int64(all[0])), all...)
	wantSame(t, h, cell, all[0], false)
	wantSame(t, h, all[0], cell, false)
}

// A thing is the same as itself, whatever it has by now.
func TestSameBehindWrites(t *testing.T) {
	h := newHeap(t, 20)
	r := put(t, h, row(nilWord))
	q := put(t, h, row(nilWord), r)
	h.Set(r, 0, r)
	wantSame(t, h, r, r, true)
	h.Set(q, 0, r)
	wantSame(t, h, q, r, false)
}

// Errors: those of a ahead of those of b; a word that is refused is not even the same as itself.
func TestSameErrors(t *testing.T) {
	s := newSample(t, 200)
	good := append(words(s.cells), nilWord, trueWord, smallWord(5), shortWord("ab"), 0, api.Canon)
	gone := append(slices.Clone(nobodys), s.gone)
	for _, w := range strays {
		wantNoSame(t, s.h, w, w, api.ErrStray)
		for _, x := range good {
			wantNoSame(t, s.h, w, x, api.ErrStray)
			wantNoSame(t, s.h, x, w, api.ErrStray)
		}
		for _, x := range gone {
			wantNoSame(t, s.h, w, x, api.ErrStray)
			wantNoSame(t, s.h, x, w, api.ErrHandle)
		}
	}
	for _, w := range gone {
		wantNoSame(t, s.h, w, w, api.ErrHandle)
		for _, x := range good {
			wantNoSame(t, s.h, w, x, api.ErrHandle)
			wantNoSame(t, s.h, x, w, api.ErrHandle)
		}
	}
	s.wantAll(t)
}

// Same, of all words of a heap, changes nothing, and is the same both ways.
func TestSameOfEachPair(t *testing.T) {
	s := newSample(t, 200)
	all := append(words(s.cells), plainWords()...)
	for _, a := range all {
		for _, b := range all {
			x, _ := expectedOf(s, a)
			y, _ := expectedOf(s, b)
			wantSame(t, s.h, a, b, x == y)
		}
	}
	s.wantAll(t)
}
