package text_test

import (
	"slices"
	"testing"

	"casket/api"
	"casket/heap"
	"casket/text"
)

// Promise 8.1: what is told of words that are no strings, in each place where one is asked for; of which, where both are wrong; and ahead of what is wrong with an index.

// bad is a word that is no string, and what is told of it.
type bad struct {
	w uint64
	e api.Errno
}

// bads are words of each class that are no strings: in a word, in a cell, and of no cell.
func (s *sample) bads() []bad {
	var all []bad
	for _, w := range strays {
		all = append(all, bad{w, api.ErrStray})
	}
	for _, w := range append(slices.Clone(nobodys), s.gone) {
		all = append(all, bad{w, api.ErrHandle})
	}
	for _, w := range plains {
		all = append(all, bad{w, api.ErrType})
	}
	for _, w := range words(s.cells) {
		if s.cells[w].Kind != api.Text {
			all = append(all, bad{w, api.ErrType})
		}
	}
	return all
}

// goods are strings that stand in words, and in cells.
func (s *sample) goods(t *testing.T) []uint64 {
	t.Helper()
	all := []uint64{shortWord(""), shortWord("ab"), shortWord("hello")}
	for _, x := range []string{"", "ab", "hello!"} {
		all = append(all, s.find(t, x))
	}
	return all
}

// The bads are of every sort: a test that leaves one out would not be told.
func TestWrongWordsAreOfEachSort(t *testing.T) {
	s := newSample(t, 200)
	counts, kinds, views := map[api.Errno]int{}, map[int]int{}, map[int]int{}
	for _, x := range s.bads() {
		counts[x.e]++
		if c, there := s.cells[x.w]; there && c.View {
			views[c.Kind]++
		} else if there {
			kinds[c.Kind]++
		}
	}
	if counts[api.ErrStray] == 0 || counts[api.ErrHandle] == 0 || counts[api.ErrType] == 0 || len(kinds) != 6 || len(views) != 4 {
		t.Errorf("the bads are %v, cells %v, views %v", counts, kinds, views)
	}
}

func TestWrongWord(t *testing.T) {
	s := newSample(t, 200)
	for _, x := range s.bads() {
		if got, e := text.Of(s.h, x.w); got != "" || e != x.e {
			t.Errorf("Of(%x) is %q, %d; want %d", x.w, got, e, x.e)
		}
		if n, e := text.Len(s.h, x.w); n != 0 || e != x.e {
			t.Errorf("Len(%x) is %d, %d; want %d", x.w, n, e, x.e)
		}
		wantNoByte(t, s.h, x.w, 0, x.e)
		wantNoSub(t, s.h, x.w, 0, 0, x.e, words(s.cells)...)
		wantNoSub(t, s.h, x.w, 0, 1, x.e)
	}
	s.wantAll(t)
}

func TestWrongWordBesideAnIndex(t *testing.T) {
	s := newSample(t, 200)
	indexes := []int64{-1, 0, 1, 1 << 32, leastIndex, mostIndex}
	for _, x := range s.bads() {
		for _, i := range indexes {
			wantNoByte(t, s.h, x.w, i, x.e)
			for _, j := range indexes {
				wantNoSub(t, s.h, x.w, i, j, x.e)
			}
		}
	}
	s.wantAll(t)
}

func TestWrongWordBesideAString(t *testing.T) {
	s := newSample(t, 200)
	for _, x := range s.bads() {
		for _, good := range s.goods(t) {
			wantNoConcat(t, s.h, x.w, good, x.e)
			wantNoConcat(t, s.h, good, x.w, x.e)
			wantNoCompare(t, s.h, x.w, good, x.e)
			wantNoCompare(t, s.h, good, x.w, x.e)
		}
	}
	s.wantAll(t)
}

// What is wrong with a is told, whatever is wrong with b.
func TestWrongWordBesideAnother(t *testing.T) {
	s := newSample(t, 200)
	for _, a := range s.bads() {
		for _, b := range s.bads() {
			wantNoCompare(t, s.h, a.w, b.w, a.e)
			if w, e := text.Concat(s.h, a.w, b.w, nil); w != 0 || e != a.e {
				t.Errorf("Concat(%x, %x) is %x, %d; want %d", a.w, b.w, w, e, a.e)
			}
		}
	}
	s.wantAll(t)
}

// A cell of another heap is none of this one (R4).
func TestWrongHeap(t *testing.T) {
	h, other := newHeap(t, 10), newHeap(t, 10)
	w := put(t, h, textCell("hello!"))
	if s, e := text.Of(other, w); s != "" || e != api.ErrHandle {
		t.Errorf("Of a cell of another heap is %q, %d", s, e)
	}
	if n, e := text.Len(other, w); n != 0 || e != api.ErrHandle {
		t.Errorf("Len of a cell of another heap is %d, %d", n, e)
	}
	wantNoByte(t, other, w, 0, api.ErrHandle)
	wantNoSub(t, other, w, 0, 6, api.ErrHandle)
	wantNoConcat(t, other, w, shortWord("ab"), api.ErrHandle)
	wantNoConcat(t, other, shortWord("ab"), w, api.ErrHandle)
	wantNoCompare(t, other, w, w, api.ErrHandle)
	put(t, other, textCell("another"))
	if s, e := text.Of(h, w); s != "hello!" || e != api.OK {
		t.Errorf("Of beside another heap is %q, %d", s, e)
	}
}

// A string whose cell was swept is told of as one that was never there.
func TestWrongBehindCollect(t *testing.T) {
	h := newHeap(t, 10)
	w := put(t, h, textCell("hello!"))
	wantOf(t, h, w, "hello!")
	h.Collect(nil)
	wantNoByte(t, h, w, 0, api.ErrHandle)
	wantNoSub(t, h, w, 1, 0, api.ErrHandle)
	wantNoCompare(t, h, w, w, api.ErrHandle)
	wantNoConcat(t, h, shortWord("a"), w, api.ErrHandle, w)
}

// What is refused has swept nothing (R2), even where the heap is full of what nothing reaches.
func TestWrongSweepsNothing(t *testing.T) {
	h := newHeap(t, 7)
	w := put(t, h, textCell("hello!"))
	put(t, h, number(1), w)
	r := put(t, h, row(nilWord, nilWord), w)
	ahead := words(held(h))
	refusals := []func() (uint64, api.Errno){
		func() (uint64, api.Errno) { return text.Concat(h, w, r, nil) },
		func() (uint64, api.Errno) { return text.Concat(h, w, strays[0], nil) },
		func() (uint64, api.Errno) { return text.Concat(h, nobodys[0], w, nil) },
		func() (uint64, api.Errno) { return text.Sub(h, r, 0, 6, nil) },
		func() (uint64, api.Errno) { return text.Sub(h, w, 0, 7, nil) },
		func() (uint64, api.Errno) { return text.Sub(h, w, 4, 3, nil) },
	}
	for i, refused := range refusals {
		if x, e := refused(); x != 0 || e == api.OK || e == api.ErrMemory {
			t.Errorf("refusal %d is %x, %d", i, x, e)
		}
	}
	if got := words(held(h)); !slices.Equal(got, ahead) {
		t.Errorf("the heap holds %x; want %x", got, ahead)
	}
	wantFull(t, h)
}

// wantFull asks that no unit is free.
func wantFull(t *testing.T, h *heap.Heap) {
	t.Helper()
	if sum := needs(held(h)); sum != h.Room() {
		t.Fatalf("the heap holds %d units of %d", sum, h.Room())
	}
}
