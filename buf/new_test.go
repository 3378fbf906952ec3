package buf_test

import (
	"slices"
	"testing"

	"casket/api"
	"casket/buf"
)

// Promises 9.1 and 9.2: Width and New. newThing looks at what is held behind each call.

func TestWidth(t *testing.T) {
	for kind, want := range map[int]int{api.F64: 8, api.F32: 4, api.I16: 2, api.U8: 1, api.Row: 0} {
		if got := buf.Width(kind); got != want {
			t.Errorf("Width(%d) is %d; want %d", kind, got, want)
		}
	}
	for _, kind := range noKinds {
		if got := buf.Width(kind); got != 0 {
			t.Errorf("Width(%d) is %d; want 0", kind, got)
		}
	}
	for kind := -1000; kind < 1000; kind++ {
		if got := buf.Width(kind); got != 0 && !slices.Contains(buffers, kind) {
			t.Errorf("Width(%d) is %d; want 0", kind, got)
		}
	}
}

func TestNewOfEachKind(t *testing.T) {
	for _, kind := range things {
		blank := map[int]uint64{api.F64: 0, api.F32: 0, api.I16: smallWord(0), api.U8: smallWord(0), api.Row: nilWord}[kind]
		for n := range int64(20) {
			h := newHeap(t, 30)
			w := wantNew(t, h, kind, n)
			wantLen(t, h, w, int(n))
			for i := range n {
				wantLoad(t, h, w, i, blank)
			}
			wantNoLoad(t, h, w, n, api.ErrIndex)
			if c, _ := h.Get(w); c.Kind != kind || c.View {
				t.Errorf("New(%d, %d) has made a cell of the kind %d, view %t", kind, n, c.Kind, c.View)
			}
		}
	}
}

// Things that were made one after the other are things of their own.
func TestNewTwice(t *testing.T) {
	for _, kind := range things {
		h := newHeap(t, 30)
		a := wantNew(t, h, kind, 3)
		b := wantNew(t, h, kind, 3, a)
		if a == b {
			t.Fatalf("New(%d, 3) is %x twice", kind, a)
		}
		first, _ := load(t, h, b, 1)
		wantStore(t, h, a, 1, smallWord(7))
		wantLoad(t, h, b, 1, first)
	}
}

// Where bytes lay that are gone, new ones are 0.
func TestNewIsBlank(t *testing.T) {
	for _, kind := range things {
		h := newHeap(t, 9)
		for range 5 {
			h.Collect(nil)
			w := put(t, h, buffer(api.U8, slices.Repeat([]byte{0xff}, 64)...))
			h.Collect(nil)
			wantNoLen(t, h, w, api.ErrHandle)
			wantNew(t, h, kind, 8)
		}
	}
}

func TestNewOfNoKind(t *testing.T) {
	for _, units := range []int{0, 1, 10} {
		for _, kind := range noKinds {
			h := newHeap(t, units)
			fill(t, h)
			for _, n := range append(slices.Clone(far), 0, 1, 2, 9, 10) {
				wantNoNew(t, h, kind, n, api.ErrKind) // ahead of a wrong n, and of memory
			}
		}
	}
}

func TestNewBelowNought(t *testing.T) {
	for _, units := range []int{0, 1, 10} {
		for _, kind := range things {
			h := newHeap(t, units)
			fill(t, h)
			for _, n := range far {
				if n < 0 {
					wantNoNew(t, h, kind, n, api.ErrRange) // ahead of memory
				}
			}
		}
	}
}

// Lengths whose bytes, or units, are more than 64 bits tell, or wrap round to few.
func TestNewOfFarTooMany(t *testing.T) {
	for _, units := range []int{0, 1, 2, 100} {
		for _, kind := range things {
			h := newHeap(t, units)
			fill(t, h)
			for _, n := range far {
				if n >= 0 {
					wantNoNew(t, h, kind, n, api.ErrMemory)
				}
			}
			for _, n := range []int64{1 << 58, 1 << 59, 3 << 60, 5 << 60, 7 << 60, 1<<61 + 2, 1<<62 + 3, most / 2, most/2 + 1, most/4 + 1, most/8 + 1, most/8 + 2, most - 6, most - 2} {
				wantNoNew(t, h, kind, n, api.ErrMemory)
			}
		}
	}
}

// fitting are lengths by the units that they need.
var fitting = []struct {
	kind int
	n    int64
	need int
}{
	{api.F64, 0, 1}, {api.F32, 0, 1}, {api.I16, 0, 1}, {api.U8, 0, 1}, {api.Row, 0, 1},
	{api.F64, 1, 2}, {api.F32, 1, 2}, {api.I16, 1, 2}, {api.U8, 1, 2}, {api.Row, 1, 2},
	{api.F32, 2, 2}, {api.F32, 3, 3}, {api.I16, 4, 2}, {api.I16, 5, 3}, {api.U8, 8, 2}, {api.U8, 9, 3},
	{api.F64, 10, 11}, {api.F32, 10, 6}, {api.F32, 11, 7}, {api.I16, 11, 4}, {api.I16, 13, 5}, {api.U8, 11, 3}, {api.U8, 17, 4}, {api.Row, 10, 11},
}

// Just as many units as are needed, and one less: then nothing is swept, since the heap could never hold it.
func TestNewJustFits(t *testing.T) {
	for _, x := range fitting {
		h := newHeap(t, x.need)
		fill(t, h)
		wantLen(t, h, wantNew(t, h, x.kind, x.n), int(x.n))

		h = newHeap(t, x.need-1)
		fill(t, h)
		ahead := words(held(h))
		wantNoNew(t, h, x.kind, x.n, api.ErrMemory)
		wantHeld(t, h, ahead...)
	}
}

// With roots that reach more: just enough units, and one less. Then what they reach is held, and nothing else.
func TestNewBesideRoots(t *testing.T) {
	for _, x := range fitting {
		for lack := range 2 {
			h := newHeap(t, 9+x.need-lack)
			base := put(t, h, buffer(api.U8, 1, 2, 3))
			v := put(t, h, view(api.U8, base, 1, 2))
			n := put(t, h, number(7), v)
			r := put(t, h, row(v, n, smallWord(1)), n)
			if sum := needs(reached(held(h), r)); sum != 9 {
				t.Fatalf("the roots reach %d units", sum)
			}
			fill(t, h)
			roots := []uint64{nilWord, r, smallWord(3), strays[0], nobodys[0], api.Canon, r}
			if lack == 0 {
				wantNew(t, h, x.kind, x.n, roots...)
			} else {
				wantNoNew(t, h, x.kind, x.n, api.ErrMemory, roots...)
				wantHeld(t, h, base, v, n, r)
			}
			wantLoad(t, h, v, 1, smallWord(3))
		}
	}
}

// With roots that reach nothing, or no roots, what was there goes.
func TestNewBesideNoRoots(t *testing.T) {
	for _, roots := range [][]uint64{nil, {}, {nilWord, smallWord(0), 0, shortWord("a")}, strays, nobodys} {
		for _, x := range fitting {
			h := newHeap(t, max(x.need, 4))
			put(t, h, number(7))
			put(t, h, row(nilWord))
			wantNew(t, h, x.kind, x.n, roots...)
		}
	}
}

// Each length about what a small heap has room for, beside roots and without.
func TestNewOfEachLength(t *testing.T) {
	for units := range 8 {
		for _, kind := range things {
			for n := range int64(8*units + 10) {
				h := newHeap(t, units)
				newThing(t, h, kind, n)
				if units < 2 {
					continue
				}
				h = newHeap(t, units)
				r := put(t, h, row(nilWord))
				fill(t, h)
				newThing(t, h, kind, n, r)
			}
		}
	}
}

// A heap of as many units as there may be.
func TestNewOfAsManyAsThereMayBe(t *testing.T) {
	for kind, n := range map[int]int64{api.F64: 1<<20 - 1, api.F32: 1<<21 - 2, api.I16: 1<<22 - 4, api.U8: 1<<23 - 8, api.Row: 1<<20 - 1} {
		h := newHeap(t, api.MaxUnits)
		w, e := buf.New(h, kind, n, nil)
		if got, f := buf.Len(h, w); int64(got) != n || e != api.OK || f != api.OK {
			t.Errorf("New(%d, %d) is %d; its Len %d, %d", kind, n, e, got, f)
		}
		if e := buf.Store(h, w, n-1, smallWord(1)); e != api.OK {
			t.Errorf("Store at the end of %d of the kind %d is %d", n, kind, e)
		}
		for _, more := range []int64{n, 0} {
			if x, e := buf.New(h, kind, more, []uint64{w}); x != 0 || e != api.ErrMemory {
				t.Errorf("New(%d, %d) beside as many as there may be is %x, %d", kind, more, x, e)
			}
		}
		if x, e := buf.New(h, kind, n+1, nil); x != 0 || e != api.ErrMemory {
			t.Errorf("New(%d, %d) is %x, %d", kind, n+1, x, e)
		}
		if _, e := h.Get(w); e != api.OK {
			t.Errorf("behind New(%d, %d), which no heap could hold, what was there is gone", kind, n+1)
		}
	}
}

// R3: roots with spare room behind them, with a handle in it: that is neither held nor written over.
func TestNewRootsEnd(t *testing.T) {
	for lack, want := range []api.Errno{api.OK, api.ErrMemory} {
		h := newHeap(t, 4-lack)
		kept := put(t, h, row())
		loose := put(t, h, row(nilWord), kept)
		list := []uint64{kept, loose, loose, loose}
		w, e := buf.New(h, api.F32, 3, list[:1])
		if e != want || (w != 0) != (want == api.OK) {
			t.Fatalf("New in %d units is %x, %d; want %d", h.Room(), w, e, want)
		}
		if want == api.OK {
			wantHeld(t, h, kept, w)
		} else {
			wantHeld(t, h, kept)
		}
		if was := []uint64{kept, loose, loose, loose}; !slices.Equal(list, was) {
			t.Errorf("the roots %x have become %x", was, list)
		}
	}
}

// The roots are not kept: what they were has no say later on.
func TestNewRootsAreNotKept(t *testing.T) {
	h := newHeap(t, 5)
	n := put(t, h, number(1))
	roots := []uint64{n}
	w, e := buf.New(h, api.U8, 8, roots)
	if e != api.OK {
		t.Fatalf("New is %d", e)
	}
	wantNoNew(t, h, api.U8, 8, api.ErrMemory, n, w)
	roots[0] = nilWord
	x := wantNew(t, h, api.U8, 8, w)
	wantNew(t, h, api.U8, 0, w, x)
}

// Two heaps have nothing to do with each other (R4): what one has made is nothing to the other.
func TestNewInTwoHeaps(t *testing.T) {
	h, other := newHeap(t, 10), newHeap(t, 10)
	for _, kind := range things {
		w := wantNew(t, h, kind, 2)
		wantNoLen(t, other, w, api.ErrHandle)
		wantNoLoad(t, other, w, 0, api.ErrHandle)
		wantNoStore(t, other, w, 0, smallWord(1), api.ErrHandle)
		wantNoView(t, other, w, api.U8, 0, 1, api.ErrHandle, w)
		if got := other.Reach([]uint64{w}); got != 0 {
			t.Errorf("a word of another heap reaches %d units", got)
		}
	}
}
