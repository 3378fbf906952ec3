package buf_test

import (
	"math"
	"slices"
	"testing"

	"casket/api"
	"casket/heap"
)

// Promise 9.6: Store. store looks at every byte and word of the heap behind each call.

// Each place of each sort of thing, and those about them.
func TestStoreAtEachPlace(t *testing.T) {
	s := newSample(t, 200)
	for _, w := range s.of(isThing) {
		n, _ := length(t, s.h, w)
		kind := s.cells[w].Kind
		for i := range int64(n) {
			wantStore(t, s.h, w, i, smallWord(100-i))
			if kind == api.Row {
				wantLoad(t, s.h, w, i, smallWord(100-i))
			} else {
				wantLoad(t, s.h, w, i, numberWord(kind, 100-i))
			}
		}
		for _, i := range append(slices.Clone(far), int64(n), int64(n)+1, int64(n)+8, 24, 32) {
			wantNoStore(t, s.h, w, i, smallWord(1), api.ErrIndex)
		}
	}
}

// Each sort of value into each sort of thing: the model says which are taken.
func TestStoreOfEachWord(t *testing.T) {
	s := newSample(t, 200)
	all := slices.Concat(plains, strays, nobodys, words(s.cells), []uint64{s.gone})
	for _, w := range s.of(isThing) {
		n, _ := length(t, s.h, w)
		for _, x := range all {
			if e := store(t, s.h, w, int64(n)-1, x); n == 0 && e != api.ErrIndex {
				t.Errorf("Store into nothing is %d", e)
			}
		}
	}
}

// What is no number is none of a buffer's; what is no whole number, none of two kinds.
func TestStoreOfWrongTypes(t *testing.T) {
	for _, kind := range buffers {
		h := newHeap(t, 60)
		b := put(t, h, buffer(kind, counted(16)...))
		r := put(t, h, row(smallWord(1)), b)
		long := put(t, h, textCell("123456"), b, r)
		short := put(t, h, textCell("1"), b, r, long)
		other := put(t, h, buffer(api.U8, 1), b, r, long, short)
		v := put(t, h, view(kind, b, 8, 1), b, r, long, short, other)
		for _, x := range []uint64{nilWord, falseWord, trueWord, shortWord(""), shortWord("1"), shortWord("hello"), long, short, r, b, v, other} {
			for _, w := range []uint64{b, v} {
				wantNoStore(t, h, w, 0, x, api.ErrType)
			}
		}
		for _, x := range []float64{0, math.Copysign(0, -1), 1, -1, 0.5, 255, 256, 1e300, math.Inf(1), math.Inf(-1), math.NaN()} {
			for _, w := range []uint64{b, v} {
				if kind == api.I16 || kind == api.U8 {
					wantNoStore(t, h, w, 0, canonical(x), api.ErrType)
				}
			}
		}
	}
}

func TestStoreOfWholeNumbers(t *testing.T) {
	for _, x := range []struct {
		kind int
		i    int64
		e    api.Errno
	}{
		{api.I16, -32769, api.ErrRange}, {api.I16, -32768, api.OK}, {api.I16, -32767, api.OK}, {api.I16, -257, api.OK}, {api.I16, -256, api.OK}, {api.I16, -1, api.OK}, {api.I16, 0, api.OK}, {api.I16, 255, api.OK}, {api.I16, 256, api.OK}, {api.I16, 32767, api.OK}, {api.I16, 32768, api.ErrRange}, {api.I16, 65535, api.ErrRange}, {api.I16, 65536, api.ErrRange}, {api.I16, -65536, api.ErrRange}, {api.I16, 1 << 32, api.ErrRange}, {api.I16, 1<<47 - 1, api.ErrRange}, {api.I16, -1 << 47, api.ErrRange},
		{api.U8, -32769, api.ErrRange}, {api.U8, -256, api.ErrRange}, {api.U8, -255, api.ErrRange}, {api.U8, -128, api.ErrRange}, {api.U8, -1, api.ErrRange}, {api.U8, 0, api.OK}, {api.U8, 1, api.OK}, {api.U8, 127, api.OK}, {api.U8, 128, api.OK}, {api.U8, 255, api.OK}, {api.U8, 256, api.ErrRange}, {api.U8, 257, api.ErrRange}, {api.U8, 32767, api.ErrRange}, {api.U8, 1 << 32, api.ErrRange}, {api.U8, -1 << 47, api.ErrRange},
	} {
		h := newHeap(t, 20)
		b := put(t, h, buffer(x.kind, counted(8)...))
		v := put(t, h, view(x.kind, b, 4, 2), b)
		cell := put(t, h, number(x.i), b, v) // the same number, in a cell
		for _, w := range []uint64{b, v} {
			for i, number := range []uint64{smallWord(x.i), cell} {
				if x.e != api.OK {
					wantNoStore(t, h, w, int64(i), number, x.e)
					continue
				}
				wantStore(t, h, w, int64(i), number)
				wantLoad(t, h, w, int64(i), smallWord(x.i))
			}
		}
	}
}

// Whole numbers that are not small stand in cells.
func TestStoreOfGreatWholeNumbers(t *testing.T) {
	for _, i := range []int64{1 << 47, -1<<47 - 1, 1 << 48, 1<<48 + 1, 1<<48 + 255, 1 << 53, 1 << 62, math.MaxInt64, math.MinInt64, math.MinInt64 + 5} {
		for _, kind := range []int{api.I16, api.U8} {
			h := newHeap(t, 20)
			w := wantNew(t, h, kind, 4)
			wantNoStore(t, h, w, 1, put(t, h, number(i), w), api.ErrRange)
		}
		h := newHeap(t, 20)
		w := wantNew(t, h, api.F64, 4)
		wantStore(t, h, w, 1, put(t, h, number(i), w))
		wantLoad(t, h, w, 1, doubleWord(float64(i)))
	}
}

// doubles are what is stored into F64 and F32, and what is loaded then.
var doubles = []struct{ x, wide, narrow uint64 }{
	{0, 0, 0}, {1 << 63, 1 << 63, 1 << 63}, // the noughts
	{0x3ff0000000000000, 0x3ff0000000000000, 0x3ff0000000000000}, {0xbff8000000000000, 0xbff8000000000000, 0xbff8000000000000},
	{api.Canon, api.Canon, api.Canon},
	{0x7ff0000000000000, 0x7ff0000000000000, 0x7ff0000000000000}, {0xfff0000000000000, 0xfff0000000000000, 0xfff0000000000000},
	{0x7fefffffffffffff, 0x7fefffffffffffff, 0x7ff0000000000000}, {0xffefffffffffffff, 0xffefffffffffffff, 0xfff0000000000000}, // beyond 32 bits
	{0x47efffffe0000000, 0x47efffffe0000000, 0x47efffffe0000000}, {0x47efffffefffffff, 0x47efffffefffffff, 0x47efffffe0000000}, // the greatest of 32 bits, and what still rounds to it
	{0x47effffff0000000, 0x47effffff0000000, 0x7ff0000000000000}, {0x47f0000000000000, 0x47f0000000000000, 0x7ff0000000000000}, {0xc7effffff0000000, 0xc7effffff0000000, 0xfff0000000000000},
	{1, 1, 0}, {1<<63 | 1, 1<<63 | 1, 1 << 63}, {0x0010000000000000, 0x0010000000000000, 0}, // far below 32 bits
	{0x36a0000000000000, 0x36a0000000000000, 0x36a0000000000000}, {0x3690000000000000, 0x3690000000000000, 0}, {0x3690000000000001, 0x3690000000000001, 0x36a0000000000000}, {0xb690000000000000, 0xb690000000000000, 1 << 63}, // the least of 32 bits, and half of it
	{0x36a8000000000000, 0x36a8000000000000, 0x36b0000000000000}, {0x380fffffc0000000, 0x380fffffc0000000, 0x380fffffc0000000}, {0x380fffffe0000000, 0x380fffffe0000000, 0x3810000000000000},
	{0x3ff0000000000001, 0x3ff0000000000001, 0x3ff0000000000000}, {0x3ff0000010000000, 0x3ff0000010000000, 0x3ff0000000000000}, {0x3ff0000010000001, 0x3ff0000010000001, 0x3ff0000020000000}, {0x3ff0000030000000, 0x3ff0000030000000, 0x3ff0000040000000}, {0x3ff0000020000000, 0x3ff0000020000000, 0x3ff0000020000000}, // between two of 32 bits
	{0x3fb999999999999a, 0x3fb999999999999a, 0x3fb99999a0000000}, {0xbfd5555555555555, 0xbfd5555555555555, 0xbfd5555560000000},
	{smallWord(0), 0, 0}, {smallWord(-2), 0xc000000000000000, 0xc000000000000000},
	{smallWord(1<<24 - 1), 0x416fffffe0000000, 0x416fffffe0000000}, {smallWord(1 << 24), 0x4170000000000000, 0x4170000000000000}, {smallWord(1<<24 + 1), 0x4170000010000000, 0x4170000000000000}, {smallWord(1<<24 + 2), 0x4170000020000000, 0x4170000020000000}, {smallWord(1<<24 + 3), 0x4170000030000000, 0x4170000040000000}, {smallWord(-1<<24 - 1), 0xc170000010000000, 0xc170000000000000},
	{smallWord(1<<47 - 1), 0x42dfffffffffffc0, 0x42e0000000000000}, {smallWord(-1 << 47), 0xc2e0000000000000, 0xc2e0000000000000},
}

// wholes are likewise, of numbers that stand in cells.
var wholes = []struct {
	i            int64
	wide, narrow uint64
}{
	{0, 0, 0}, {1, 0x3ff0000000000000, 0x3ff0000000000000}, {-1, 0xbff0000000000000, 0xbff0000000000000}, {1<<24 + 1, 0x4170000010000000, 0x4170000000000000},
	{1<<53 - 1, 0x433fffffffffffff, 0x4340000000000000}, {1 << 53, 0x4340000000000000, 0x4340000000000000}, {1<<53 + 1, 0x4340000000000000, 0x4340000000000000}, {1<<53 + 2, 0x4340000000000001, 0x4340000000000000}, {1<<53 + 3, 0x4340000000000002, 0x4340000000000000}, {-1<<53 - 1, 0xc340000000000000, 0xc340000000000000}, {-1<<53 - 3, 0xc340000000000002, 0xc340000000000000},
	{math.MaxInt64, 0x43e0000000000000, 0x43e0000000000000}, {math.MaxInt64 - 511, 0x43e0000000000000, 0x43e0000000000000}, {math.MaxInt64 - 512, 0x43dfffffffffffff, 0x43e0000000000000}, {math.MinInt64, 0xc3e0000000000000, 0xc3e0000000000000}, {math.MinInt64 + 1, 0xc3e0000000000000, 0xc3e0000000000000},
	{1<<60 + 1<<36, 0x43b0000010000000, 0x43b0000000000000}, {1<<60 + 1<<36 + 1, 0x43b0000010000000, 0x43b0000000000000}, // rounded to a double first: a tie then, though it was none
	{1<<60 + 1<<36 + 1<<9, 0x43b0000010000002, 0x43b0000020000000}, {-1<<60 - 1<<36 - 1, 0xc3b0000010000000, 0xc3b0000000000000}, {1<<60 + 3<<36 - 1, 0x43b0000030000000, 0x43b0000040000000},
}

func TestStoreOfDoubles(t *testing.T) {
	h := newHeap(t, 30)
	wide := wantNew(t, h, api.F64, 3)
	narrow := wantNew(t, h, api.F32, 3, wide)
	part := wantView(t, h, wide, api.F64, 8, 1, wide, 8, narrow)
	narrowPart := wantView(t, h, narrow, api.F32, 4, 2, narrow, 4, part)
	keep := []uint64{part, narrowPart}
	for _, x := range doubles {
		wantStored(t, h, x.x, x.wide, wide, part)
		wantStored(t, h, x.x, x.narrow, narrow, narrowPart)
	}
	for _, x := range wholes {
		w := put(t, h, number(x.i), keep...)
		wantStored(t, h, w, x.wide, wide, part)
		wantStored(t, h, w, x.narrow, narrow, narrowPart)
	}
}

// wantStored stores x into things, at their ends, and asks for want.
func wantStored(t *testing.T, h *heap.Heap, x, want uint64, all ...uint64) {
	t.Helper()
	for _, w := range all {
		n, _ := length(t, h, w)
		for _, i := range []int64{0, int64(n) - 1} {
			wantStore(t, h, w, i, x)
			wantLoad(t, h, w, i, want)
		}
	}
}

// The bytes that are written, the lowest first; of a NaN just these.
func TestStoreOrder(t *testing.T) {
	for _, x := range []struct {
		kind int
		x    uint64
		want []byte
	}{
		{api.F64, 0x3ff0123456789abc, []byte{0xbc, 0x9a, 0x78, 0x56, 0x34, 0x12, 0xf0, 0x3f}},
		{api.F64, api.Canon, []byte{0, 0, 0, 0, 0, 0, 0xf8, 0x7f}},
		{api.F64, 1 << 63, []byte{0, 0, 0, 0, 0, 0, 0, 0x80}},
		{api.F64, smallWord(3), []byte{0, 0, 0, 0, 0, 0, 0x08, 0x40}},
		{api.F32, 0x3ff0123456789abc, []byte{0xa3, 0x91, 0x80, 0x3f}},
		{api.F32, api.Canon, []byte{0, 0, 0xc0, 0x7f}},
		{api.F32, 1 << 63, []byte{0, 0, 0, 0x80}},
		{api.F32, smallWord(-3), []byte{0, 0, 0x40, 0xc0}},
		{api.I16, smallWord(0x1234), []byte{0x34, 0x12}},
		{api.I16, smallWord(-2), []byte{0xfe, 0xff}},
		{api.I16, smallWord(-32768), []byte{0, 0x80}},
		{api.U8, smallWord(0x9a), []byte{0x9a}},
	} {
		for i := range 16 / len(x.want) {
			h := newHeap(t, 10)
			b := put(t, h, buffer(x.kind, counted(16)...))
			wantStore(t, h, b, int64(i), x.x)
			want := counted(16)
			copy(want[i*len(x.want):], x.want)
			wantBytes(t, h, b, want...)
		}
	}
}

// A row takes every value, and its word as it is: a number in a cell stays there.
func TestStoreIntoRows(t *testing.T) {
	h := newHeap(t, 40)
	five := put(t, h, number(5))
	short := put(t, h, textCell("ab"), five)
	long := put(t, h, textCell("hello!"), five, short)
	b := put(t, h, buffer(api.F64, counted(8)...), five, short, long)
	v := put(t, h, view(api.U8, b, 2, 3), five, short, long)
	r := wantNew(t, h, api.Row, 3, five, short, long, v)
	for _, x := range append(slices.Clone(plains), five, short, long, b, v, r) {
		for i := range int64(3) {
			wantStore(t, h, r, i, x)
			wantLoad(t, h, r, i, x)
		}
	}
	for _, x := range strays {
		wantNoStore(t, h, r, 1, x, api.ErrStray)
	}
	for _, x := range nobodys {
		wantNoStore(t, h, r, 1, x, api.ErrHandle)
	}
	wantLoad(t, h, r, 1, r)
}

// Rows that hold rows, themselves and buffers.
func TestStoreOfThingsIntoRows(t *testing.T) {
	h := newHeap(t, 14)
	r := wantNew(t, h, api.Row, 3)
	inner := wantNew(t, h, api.Row, 2, r)
	b := wantNew(t, h, api.U8, 8, r, inner)
	v := wantView(t, h, b, api.I16, 4, 2, b, 4, r, inner)
	wantStore(t, h, r, 0, r)
	wantStore(t, h, r, 1, inner)
	wantStore(t, h, inner, 0, r)
	wantStore(t, h, inner, 1, v)
	h.Collect([]uint64{r})
	wantHeld(t, h, r, inner, b, v)
	wantNoView(t, h, r, api.U8, 0, 0, api.ErrType, r)
	wantNew(t, h, api.Row, 3, r) // as much as is free
	wantNoNew(t, h, api.Row, 4, api.ErrMemory, r)
	wantHeld(t, h, r, inner, b, v)
	for _, w := range []uint64{r, must(load(t, h, r, 0)), must(load(t, h, must(load(t, h, r, 1)), 0))} {
		wantLoad(t, h, w, 0, r)
		wantLen(t, h, w, 3)
	}
	wantStore(t, h, must(load(t, h, must(load(t, h, r, 1)), 1)), 1, smallWord(-1))
	wantBytes(t, h, b, 0, 0, 0, 0, 0, 0, 255, 255)
	wantStore(t, h, r, 1, nilWord)
	h.Collect([]uint64{r})
	wantHeld(t, h, r)
	h.Collect(nil)
	wantNoLoad(t, h, r, 0, api.ErrHandle)
}

// must is an element that is there.
func must(w uint64, e api.Errno) uint64 {
	if e != api.OK {
		panic("a test asks for an element that is none")
	}
	return w
}

// What is refused has changed nothing (R2): neither the element nor those beside it.
func TestStoreRefused(t *testing.T) {
	for _, kind := range things {
		h := newHeap(t, 30)
		w := wantNew(t, h, kind, 4)
		for i := range int64(4) {
			wantStore(t, h, w, i, smallWord(i+1))
		}
		ahead := held(h)
		for _, x := range slices.Concat(strays, nobodys) {
			for i := range int64(4) {
				if e := store(t, h, w, i, x); e != api.ErrStray && e != api.ErrHandle {
					t.Fatalf("Store of %x is %d", x, e)
				}
			}
		}
		if kind == api.I16 || kind == api.U8 {
			wantNoStore(t, h, w, 1, smallWord(65536+7), api.ErrRange)
			wantNoStore(t, h, w, 1, doubleWord(7), api.ErrType)
		}
		wantSame(t, h, "all that is refused", ahead)
	}
}

// Storing needs no unit, and sweeps nothing, however full the heap is.
func TestStoreInAFullHeap(t *testing.T) {
	for _, kind := range things {
		h := newHeap(t, 20)
		w := wantNew(t, h, kind, 4)
		x := put(t, h, number(7), w)
		fill(t, h)
		ahead := words(held(h))
		wantStore(t, h, w, 3, x)
		wantHeld(t, h, ahead...)
	}
}
