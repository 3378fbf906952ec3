package buf_test

import (
	"slices"
	"testing"

	"casket/api"
	"casket/buf"
	"casket/heap"
)

// Promise 9.3: View. newView looks at what is held behind each call; words that are no buffer are in wrong_test.go.

// Each kind over each kind, each place and length about a buffer's.
func TestViewOfEachKind(t *testing.T) {
	for _, of := range buffers {
		for _, kind := range buffers {
			for _, size := range []int{0, 8, 24} {
				h := newHeap(t, 8)
				b := put(t, h, buffer(of, counted(size)...))
				for from := int64(-2); from <= int64(size)+2; from++ {
					for n := int64(-2); n <= int64(size)+2; n++ {
						newView(t, h, b, kind, from, n, b)
					}
				}
			}
		}
	}
}

// Each kind over each kind over each kind: views that begin and end within a buffer.
func TestViewOfEachView(t *testing.T) {
	for _, of := range buffers {
		for _, kind := range buffers {
			for _, from := range []int{0, 2, 4, 6, 8, 12, 16} {
				h := newHeap(t, 8)
				b := put(t, h, buffer(api.U8, counted(24)...))
				if from%width(of) != 0 {
					continue
				}
				v := put(t, h, view(of, b, from, 8/width(of)))
				for at := int64(-2); at <= 10; at++ {
					for n := int64(-2); n <= 10; n++ {
						newView(t, h, v, kind, at, n, v)
					}
				}
			}
		}
	}
}

// Some of it written out.
func TestViewByHand(t *testing.T) {
	h := newHeap(t, 60)
	b := put(t, h, buffer(api.F32, counted(16)...))
	v := put(t, h, view(api.I16, b, 2, 5), b) // bytes 2 to 11
	last := put(t, h, view(api.U8, b, 16, 0), v)
	roots := []uint64{b, v, last}
	for _, x := range []struct {
		w       uint64
		kind    int
		from, n int64
		at      int
	}{
		{b, api.F64, 0, 0, 0}, {b, api.F64, 0, 2, 0}, {b, api.F64, 8, 1, 8}, {b, api.F64, 16, 0, 16}, {b, api.F32, 4, 3, 4}, {b, api.I16, 14, 1, 14}, {b, api.U8, 15, 1, 15}, {b, api.U8, 16, 0, 16}, {b, api.U8, 0, 16, 0},
		{v, api.I16, 0, 5, 2}, {v, api.I16, 10, 0, 12}, {v, api.U8, 9, 1, 11}, {v, api.U8, 10, 0, 12}, {v, api.F32, 2, 2, 4}, {v, api.F32, 10, 0, 12}, {v, api.F64, 6, 0, 8},
		{last, api.U8, 0, 0, 16}, {last, api.F64, 0, 0, 16},
	} {
		made := wantView(t, h, x.w, x.kind, x.from, x.n, b, x.at, roots...)
		wantLen(t, h, made, int(x.n))
	}
	for _, x := range []struct {
		w       uint64
		kind    int
		from, n int64
		e       api.Errno
	}{
		{b, api.F64, 0, 3, api.ErrIndex}, {b, api.F64, 8, 2, api.ErrIndex}, {b, api.F64, 16, 1, api.ErrIndex}, {b, api.F64, 24, 0, api.ErrIndex}, {b, api.U8, 17, 0, api.ErrIndex}, {b, api.U8, 16, 1, api.ErrIndex}, {b, api.U8, 0, 17, api.ErrIndex},
		{v, api.I16, 0, 6, api.ErrIndex}, {v, api.U8, 10, 1, api.ErrIndex}, {v, api.U8, 11, 0, api.ErrIndex}, {v, api.F64, 6, 1, api.ErrIndex}, {v, api.I16, 12, 0, api.ErrIndex},
		{last, api.U8, 0, 1, api.ErrIndex}, {last, api.F64, 8, 0, api.ErrIndex},
	} {
		wantNoView(t, h, x.w, x.kind, x.from, x.n, x.e, roots...)
	}
}

// Places count from the buffer's beginning: what is a multiple from the view's alone is none, what is one from the buffer's alone is.
func TestViewAlignment(t *testing.T) {
	h := newHeap(t, 60)
	b := put(t, h, buffer(api.U8, counted(32)...))
	for _, x := range []struct {
		kind, begin int
		from        int64
		e           api.Errno
	}{
		{api.F64, 4, 0, api.ErrAlign}, {api.F64, 4, 8, api.ErrAlign}, {api.F64, 4, 4, api.OK}, {api.F64, 4, 12, api.OK}, {api.F64, 8, 0, api.OK}, {api.F64, 8, 4, api.ErrAlign}, {api.F64, 7, 1, api.OK}, {api.F64, 1, 7, api.OK}, {api.F64, 7, 7, api.ErrAlign}, {api.F64, 5, 5, api.ErrAlign},
		{api.F32, 2, 0, api.ErrAlign}, {api.F32, 2, 4, api.ErrAlign}, {api.F32, 2, 2, api.OK}, {api.F32, 3, 1, api.OK}, {api.F32, 3, 3, api.ErrAlign}, {api.F32, 4, 2, api.ErrAlign},
		{api.I16, 1, 0, api.ErrAlign}, {api.I16, 1, 2, api.ErrAlign}, {api.I16, 1, 1, api.OK}, {api.I16, 3, 3, api.OK}, {api.I16, 2, 1, api.ErrAlign},
		{api.U8, 1, 0, api.OK}, {api.U8, 3, 5, api.OK},
	} {
		v := put(t, h, view(api.U8, b, x.begin, 24), b)
		if x.e == api.OK {
			wantView(t, h, v, x.kind, x.from, 1, b, x.begin+int(x.from), b)
		} else {
			wantNoView(t, h, v, x.kind, x.from, 1, x.e, b)
		}
	}
}

// Places and lengths far away: neither a sum nor a product wraps round.
func TestViewFarAway(t *testing.T) {
	h := newHeap(t, 20)
	b := put(t, h, buffer(api.F64, counted(32)...))
	for _, w := range []uint64{b, put(t, h, view(api.U8, b, 8, 16), b), put(t, h, view(api.U8, b, 7, 17), b)} {
		for _, kind := range buffers {
			near := []int64{0, 1, 8, 9, 16, 17, 24, 32}
			for _, x := range far {
				for _, y := range slices.Concat(near, far) {
					newView(t, h, w, kind, x, y, b, w)
					newView(t, h, w, kind, y, x, b, w)
				}
			}
		}
	}
	v := put(t, h, view(api.U8, b, 8, 16), b)
	for _, x := range []struct {
		w       uint64
		kind    int
		from, n int64
		e       api.Errno
	}{
		{b, api.F64, 0, 1 << 61, api.ErrIndex}, {b, api.F64, 0, 1<<61 + 1, api.ErrIndex}, {b, api.F32, 0, 1 << 62, api.ErrIndex}, {b, api.I16, 0, most, api.ErrIndex}, {b, api.U8, 1, most, api.ErrIndex},
		{b, api.U8, most, 0, api.ErrIndex}, {b, api.U8, most, 1, api.ErrIndex}, {b, api.F64, most, 1, api.ErrAlign}, {b, api.F64, most - 7, 1, api.ErrIndex}, {b, api.F64, most - 7, 1 << 61, api.ErrIndex},
		{v, api.U8, most, 1, api.ErrIndex}, {v, api.U8, most - 7, most, api.ErrIndex}, {v, api.F64, most - 7, 0, api.ErrIndex}, {v, api.I16, most, 0, api.ErrAlign}, {v, api.F64, 8, most, api.ErrIndex},
		{b, api.U8, least, 0, api.ErrRange}, {b, api.U8, 0, least, api.ErrRange}, {v, api.U8, -8, 1, api.ErrRange}, {v, api.F64, -8, 1, api.ErrRange}, {v, api.U8, least, most, api.ErrRange}, {v, api.U8, most, least, api.ErrRange},
	} {
		wantNoView(t, h, x.w, x.kind, x.from, x.n, x.e, b, v)
	}
}

// What is told where several things are wrong.
func TestViewFirstError(t *testing.T) {
	h := newHeap(t, 8)
	b := put(t, h, buffer(api.U8, counted(16)...))
	v := put(t, h, view(api.U8, b, 1, 8), b)
	r := put(t, h, row(nilWord, nilWord), b, v)
	fill(t, h)
	for _, kind := range append(slices.Clone(noKinds), api.Row) {
		wantNoView(t, h, strays[0], kind, -1, -1, api.ErrStray)
		wantNoView(t, h, nobodys[0], kind, -1, -1, api.ErrHandle)
		wantNoView(t, h, smallWord(1), kind, -1, -1, api.ErrType)
		wantNoView(t, h, r, kind, -1, -1, api.ErrType)
		for _, w := range []uint64{b, v} {
			wantNoView(t, h, w, kind, -1, -1, api.ErrKind)
			wantNoView(t, h, w, kind, 0, 0, api.ErrKind)
			wantNoView(t, h, w, kind, 17, 0, api.ErrKind)
			wantNoView(t, h, w, kind, least, most, api.ErrKind)
		}
	}
	for _, w := range []uint64{b, v} {
		wantNoView(t, h, w, api.F64, -1, 0, api.ErrRange)
		wantNoView(t, h, w, api.F64, 99, -1, api.ErrRange)
		wantNoView(t, h, w, api.F64, 3, -1, api.ErrRange)
		wantNoView(t, h, w, api.F64, 99, 99, api.ErrAlign)
		wantNoView(t, h, w, api.I16, most-2+int64(held(h)[w].From), 1, api.ErrAlign)
		wantNoView(t, h, w, api.U8, 99, 99, api.ErrIndex)
	}
	wantNoView(t, h, r, api.U8, 0, 0, api.ErrType, r)
}

// A view of a view of a view, of each kind: its base is the buffer.
func TestViewOfViewOfView(t *testing.T) {
	for _, first := range buffers {
		for _, second := range buffers {
			for _, third := range buffers {
				h := newHeap(t, 20)
				b := put(t, h, buffer(api.I16, counted(64)...))
				v := wantView(t, h, b, first, 8, int64(48/width(first)), b, 8, b)
				x := wantView(t, h, v, second, 8, int64(24/width(second)), b, 16, b, v)
				y := wantView(t, h, x, third, 16, int64(8/width(third)), b, 32, b, v, x)
				z := wantView(t, h, y, api.U8, 7, 1, b, 39, b, v, x, y)
				wantNoView(t, h, y, api.U8, 7, 2, api.ErrIndex, b, v, x, y, z)
				wantNoView(t, h, x, api.U8, 25, 0, api.ErrIndex, b, v, x, y, z)
				wantStore(t, h, z, 0, smallWord(0xab))
				wantLoad(t, h, put(t, h, view(api.U8, b, 0, 64), b, z), 39, smallWord(0xab))
			}
		}
	}
}

// Those between go, if nothing else reaches them: a view has the buffer as its base, and no view.
func TestViewLeavesViewsBetween(t *testing.T) {
	h := newHeap(t, 20)
	b := wantNew(t, h, api.U8, 16)
	v := wantView(t, h, b, api.I16, 2, 6, b, 2)
	x := wantView(t, h, v, api.F32, 2, 2, b, 4, b)
	h.Collect([]uint64{x})
	wantHeld(t, h, b, x)
	wantNoLen(t, h, v, api.ErrHandle)
	wantStore(t, h, x, 1, doubleWord(-1))
	wantBytes(t, h, b, 0, 0, 0, 0, 0, 0, 0, 0, 0, 0, 0x80, 0xbf, 0, 0, 0, 0)
}

// A buffer that nothing but its view reaches, with collections between.
func TestViewHoldsItsBuffer(t *testing.T) {
	for _, kind := range buffers {
		h := newHeap(t, 10)
		b := wantNew(t, h, api.U8, 16)
		v := wantView(t, h, b, kind, 8, int64(8/width(kind)), b, 8)
		for i := range int64(8 / width(kind)) {
			h.Collect([]uint64{v})
			wantHeld(t, h, b, v)
			wantStore(t, h, v, i, smallWord(i+1))
			wantNew(t, h, api.Row, 5, v) // as many as are free
			wantNoNew(t, h, api.Row, 6, api.ErrMemory, v)
			wantHeld(t, h, b, v)
			wantLoad(t, h, v, i, numberWord(kind, i+1))
			wantNew(t, h, api.Row, 2, v)
		}
		for i := range int64(8) {
			wantLoad(t, h, b, i, smallWord(0))
		}
		h.Collect([]uint64{b})
		wantHeld(t, h, b)
		h.Collect(nil)
		wantNoLen(t, h, b, api.ErrHandle)
	}
}

// numberWord is the word of a small number as it is loaded from a thing of a kind.
func numberWord(kind int, i int64) uint64 {
	if kind == api.F64 || kind == api.F32 {
		return doubleWord(float64(i))
	}
	return smallWord(i)
}

// Nothing but the call reaches w: it stays, and counts; all else goes, where units are lacking.
func TestViewMemory(t *testing.T) {
	for lack := range 2 {
		h := newHeap(t, 4-lack) // a buffer of two units, a view of it, and a new one
		b := put(t, h, buffer(api.U8, counted(8)...))
		w := put(t, h, view(api.U8, b, 2, 4), b)
		fill(t, h)
		if lack == 0 {
			x := wantView(t, h, w, api.I16, 0, 2, b, 2)
			wantHeld(t, h, b, w, x)
		} else {
			wantNoView(t, h, w, api.I16, 0, 2, api.ErrMemory)
			wantHeld(t, h, b, w)
		}
		wantBytes(t, h, b, counted(8)...)
	}
	for lack := range 2 {
		h := newHeap(t, 3-lack)
		b := put(t, h, buffer(api.U8, counted(8)...))
		fill(t, h)
		if lack == 0 {
			x := wantView(t, h, b, api.I16, 2, 2, b, 2)
			wantHeld(t, h, b, x)
		} else {
			wantNoView(t, h, b, api.I16, 2, 2, api.ErrMemory)
			wantHeld(t, h, b)
		}
		wantBytes(t, h, b, counted(8)...)
	}
}

// Roots reach more: that stays too, and counts; w among them, or in a row that they reach, counts once.
func TestViewMemoryWithRoots(t *testing.T) {
	for lack := range 2 {
		h := newHeap(t, 10-lack)
		b := put(t, h, buffer(api.U8, counted(8)...))
		w := put(t, h, view(api.U8, b, 2, 4), b)
		n := put(t, h, number(7), w)
		r := put(t, h, row(b, w, n), w, n)
		fill(t, h)
		roots := []uint64{r, nilWord, w, smallWord(3), strays[0], nobodys[0], api.Canon, r}
		if lack == 0 {
			x := wantView(t, h, w, api.U8, 1, 3, b, 3, roots...)
			wantHeld(t, h, b, w, n, r, x)
		} else {
			wantNoView(t, h, w, api.U8, 1, 3, api.ErrMemory, roots...)
			wantHeld(t, h, b, w, n, r)
		}
	}
}

// What is refused has swept nothing (R2), even where the heap is full of what nothing reaches.
func TestViewRefusedSweepsNothing(t *testing.T) {
	h := newHeap(t, 10)
	b := put(t, h, buffer(api.U8, counted(8)...))
	r := put(t, h, row(nilWord, nilWord), b)
	n := put(t, h, number(3), b, r)
	fill(t, h)
	ahead := words(held(h))
	wantNoView(t, h, strays[0], api.U8, 0, 0, api.ErrStray)
	wantNoView(t, h, nobodys[0], api.U8, 0, 0, api.ErrHandle)
	wantNoView(t, h, r, api.U8, 0, 0, api.ErrType)
	wantNoView(t, h, n, api.U8, 0, 0, api.ErrType)
	wantNoView(t, h, b, api.Row, 0, 0, api.ErrKind)
	wantNoView(t, h, b, api.U8, -1, 0, api.ErrRange)
	wantNoView(t, h, b, api.U8, 0, -1, api.ErrRange)
	wantNoView(t, h, b, api.F32, 2, 1, api.ErrAlign)
	wantNoView(t, h, b, api.U8, 0, 9, api.ErrIndex)
	wantHeld(t, h, ahead...)
}

// R3: roots with spare room behind them, with a handle in it: that is neither held nor written over.
func TestViewRootsEnd(t *testing.T) {
	for lack, want := range []api.Errno{api.OK, api.ErrMemory} {
		for spare := range 4 {
			h := newHeap(t, 4-lack)
			b := put(t, h, buffer(api.U8, counted(8)...))
			kept := put(t, h, row(), b)
			var list []uint64
			if lack == 0 {
				list = slices.Repeat([]uint64{put(t, h, row(), b, kept)}, spare)
			} else {
				list = slices.Repeat([]uint64{nilWord}, spare)
			}
			list = append([]uint64{kept}, list...)
			was := slices.Clone(list)
			v, e := buf.View(h, b, api.I16, 0, 4, list[:1])
			if e != want || (v != 0) != (want == api.OK) {
				t.Fatalf("View in %d units is %x, %d; want %d", h.Room(), v, e, want)
			}
			if want == api.OK {
				wantHeld(t, h, b, kept, v)
			} else {
				wantHeld(t, h, b, kept)
			}
			if !slices.Equal(list, was) {
				t.Errorf("the roots %x have become %x", was, list)
			}
		}
	}
}

// Neither the roots nor w are kept: behind the call they go as soon as nothing reaches them.
func TestViewKeepsNoRoots(t *testing.T) {
	h := newHeap(t, 20)
	b := put(t, h, buffer(api.U8, counted(8)...))
	n := put(t, h, number(7), b)
	w := put(t, h, view(api.U8, b, 0, 8), b, n)
	v := wantView(t, h, w, api.I16, 0, 4, b, 0, n)
	h.Collect([]uint64{v})
	wantHeld(t, h, b, v)
}

// Views of one buffer, made by two words, are things of their own, however alike they are.
func TestViewTwice(t *testing.T) {
	h := newHeap(t, 20)
	b := wantNew(t, h, api.U8, 8)
	v := wantView(t, h, b, api.U8, 0, 8, b, 0)
	x := wantView(t, h, b, api.U8, 0, 8, b, 0, v)
	if v == x || v == b || x == b {
		t.Errorf("a buffer %x, and views of all of it: %x, %x", b, v, x)
	}
}

// The same view in heaps that hold other things beside.
func TestViewInTwoHeaps(t *testing.T) {
	one, other := newHeap(t, 20), newHeap(t, 20)
	put(t, other, number(1))
	for _, h := range []*heap.Heap{one, other} {
		b := wantNew(t, h, api.F64, 2)
		v := wantView(t, h, b, api.F32, 4, 2, b, 4)
		wantLen(t, h, v, 2)
		wantStore(t, h, v, 1, smallWord(1))
		wantLoad(t, h, b, 1, 0x000000003f800000)
	}
}
