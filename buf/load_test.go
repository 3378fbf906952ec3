package buf_test

import (
	"math"
	"slices"
	"testing"

	"casket/api"
)

// Promises 9.4 and 9.5: Len and Load.

func TestLen(t *testing.T) {
	h := newHeap(t, 60)
	b := put(t, h, buffer(api.U8, counted(24)...))
	for _, x := range []struct {
		c    api.Cell
		want int
	}{
		{buffer(api.F64), 0}, {buffer(api.F32), 0}, {buffer(api.I16), 0}, {buffer(api.U8), 0}, {row(), 0},
		{buffer(api.F64, counted(24)...), 3}, {buffer(api.F32, counted(24)...), 6}, {buffer(api.I16, counted(24)...), 12}, {buffer(api.U8, counted(24)...), 24}, {buffer(api.U8, counted(23)...), 23}, {buffer(api.F32, counted(20)...), 5}, {buffer(api.I16, counted(22)...), 11},
		{row(nilWord), 1}, {row(nilWord, smallWord(1), b), 3}, {row(slices.Repeat([]uint64{nilWord}, 9)...), 9},
		{view(api.F64, b, 0, 3), 3}, {view(api.F64, b, 8, 2), 2}, {view(api.F32, b, 8, 2), 2}, {view(api.I16, b, 2, 3), 3}, {view(api.U8, b, 7, 9), 9}, {view(api.U8, b, 24, 0), 0}, {view(api.F64, b, 24, 0), 0}, {view(api.I16, b, 0, 0), 0},
	} {
		wantLen(t, h, put(t, h, x.c, b), x.want)
	}
}

func TestLenOfEachView(t *testing.T) {
	h := newHeap(t, 10)
	for _, kind := range buffers {
		b := put(t, h, buffer(kind, counted(16)...))
		wantLen(t, h, b, 16/width(kind))
		for _, of := range buffers {
			for n := range 16/width(of) + 1 {
				wantLen(t, h, put(t, h, view(of, b, 0, n), b), n)
			}
		}
	}
}

// Each element of each sort of thing, and the places about them.
func TestLoadOfEachThing(t *testing.T) {
	s := newSample(t, 200)
	for _, w := range s.of(isThing) {
		n, _ := length(t, s.h, w)
		for i := range int64(n) {
			if _, e := load(t, s.h, w, i); e != api.OK {
				t.Fatalf("Load(%x, %d) is %d", w, i, e)
			}
		}
		for _, i := range append(slices.Clone(far), int64(n), int64(n)+1, int64(n)+8, 24, 32) {
			wantNoLoad(t, s.h, w, i, api.ErrIndex)
		}
	}
	wantSame(t, s.h, "all of it", s.cells)
}

// The order of the bytes: the lowest first.
func TestLoadOrder(t *testing.T) {
	h := newHeap(t, 10)
	b := put(t, h, buffer(api.U8, 0x01, 0x02, 0x80, 0xff, 0x00, 0x7f, 0xf0, 0x3f, 0, 0, 0, 0, 0, 0, 0x08, 0xc0))
	for kind, want := range map[int][]uint64{
		api.F64: {0x3ff07f00ff800201, doubleWord(-3)},
		api.F32: {canonical(float64(math.Float32frombits(0xff800201))), doubleWord(1.878875732421875), 0, doubleWord(-2.125)},
		api.I16: {smallWord(0x201), smallWord(-128), smallWord(0x7f00), smallWord(0x3ff0), smallWord(0), smallWord(0), smallWord(0), smallWord(-0x3ff8)},
		api.U8:  {smallWord(1), smallWord(2), smallWord(128), smallWord(255), smallWord(0), smallWord(127), smallWord(240), smallWord(63), smallWord(0), smallWord(0), smallWord(0), smallWord(0), smallWord(0), smallWord(0), smallWord(8), smallWord(192)},
	} {
		v := wantView(t, h, b, kind, 0, int64(len(want)), b, 0, b)
		for i, w := range want {
			wantLoad(t, h, v, int64(i), w)
		}
		wantNoLoad(t, h, v, int64(len(want)), api.ErrIndex)
	}
}

// Each whole number of 8 and of 16 bits.
func TestLoadOfEachWholeNumber(t *testing.T) {
	h := newHeap(t, 1)
	for x := range 256 {
		h = newHeap(t, 2)
		wantLoad(t, h, put(t, h, buffer(api.U8, byte(x))), 0, smallWord(int64(x)))
	}
	for x := math.MinInt16; x <= math.MaxInt16; x += 127 {
		h = newHeap(t, 2)
		wantLoad(t, h, put(t, h, buffer(api.I16, byte(x), byte(x>>8))), 0, smallWord(int64(x)))
	}
	for _, x := range []int64{-32768, -32767, -257, -256, -255, -129, -128, -127, -1, 0, 1, 127, 128, 255, 256, 32766, 32767} {
		h = newHeap(t, 2)
		wantLoad(t, h, put(t, h, buffer(api.I16, byte(x), byte(x>>8))), 0, smallWord(x))
	}
}

// bytesOf are the lowest first.
func bytesOf(x uint64, n int) []byte {
	b := make([]byte, n)
	for i := range b {
		b[i] = byte(x >> (8 * i))
	}
	return b
}

// Whatever bytes stand there, no NaN but the canonical one is loaded: none is taken for something else (W2).
func TestLoadOfNaNs(t *testing.T) {
	patterns := slices.Concat(strays, nobodys, []uint64{
		nilWord, falseWord, trueWord, smallWord(0), smallWord(-1), shortWord(""), shortWord("ab"), handleWord(0), handleWord(1),
		0x7ff8000000000000, 0xfff8000000000000, 0x7ff0000000000001, 0x7ff7ffffffffffff, 0xfff7ffffffffffff, 0x7ff0000100000000, 0x7fffffffffffffff,
	})
	for _, x := range patterns {
		h := newHeap(t, 10)
		b := put(t, h, buffer(api.F64, append(bytesOf(x, 8), bytesOf(x, 8)...)...))
		wantLoad(t, h, b, 0, 0x7ff8000000000000)
		wantLoad(t, h, put(t, h, view(api.F64, b, 8, 1), b), 0, 0x7ff8000000000000)
	}
	for _, x := range []uint64{0x7f800001, 0x7fbfffff, 0x7fc00000, 0x7fc00001, 0x7fffffff, 0xff800001, 0xffbfffff, 0xffc00000, 0xffc00001, 0xffffffff} {
		h := newHeap(t, 10)
		b := put(t, h, buffer(api.F32, append(bytesOf(x, 4), bytesOf(x, 4)...)...))
		wantLoad(t, h, b, 1, 0x7ff8000000000000)
		wantLoad(t, h, put(t, h, view(api.F32, b, 4, 1), b), 0, 0x7ff8000000000000)
	}
}

// Other patterns are themselves: infinities, noughts, the least numbers that there are.
func TestLoadOfDoubles(t *testing.T) {
	for _, x := range []uint64{0, 1 << 63, 1, 1<<63 | 1, 0x000fffffffffffff, 0x0010000000000000, 0x3ff0000000000000, 0x3ff0000000000001, 0x7fefffffffffffff, 0x7ff0000000000000, 0xfff0000000000000, 0xffefffffffffffff} {
		h := newHeap(t, 10)
		wantLoad(t, h, put(t, h, buffer(api.F64, append(make([]byte, 8), bytesOf(x, 8)...)...)), 1, x)
	}
	for pattern, want := range map[uint64]uint64{
		0: 0, 0x80000000: 1 << 63, 1: 0x36a0000000000000, 0x80000001: 0xb6a0000000000000, 0x007fffff: 0x380fffffc0000000, 0x00800000: 0x3810000000000000, 0x3f800000: 0x3ff0000000000000, 0x3f800001: 0x3ff0000020000000,
		0x7f7fffff: 0x47efffffe0000000, 0x7f800000: 0x7ff0000000000000, 0xff800000: 0xfff0000000000000, 0xc0000000: 0xc000000000000000,
	} {
		h := newHeap(t, 10)
		wantLoad(t, h, put(t, h, buffer(api.F32, append(make([]byte, 4), bytesOf(pattern, 4)...)...)), 1, want)
	}
}

// A row's words are told as they stand, even those that lead to cells.
func TestLoadOfRows(t *testing.T) {
	h := newHeap(t, 40)
	five := put(t, h, number(5))
	short := put(t, h, textCell("ab"), five)
	b := put(t, h, buffer(api.U8, 1), five, short)
	all := append(slices.Clone(plains), five, short, b, five)
	r := put(t, h, row(all...), five, short, b)
	for i, w := range all {
		wantLoad(t, h, r, int64(i), w)
	}
}

// What only looks changes nothing, neither in the heap nor in what is answered a second time.
func TestReadingChangesNothing(t *testing.T) {
	s := newSample(t, 200)
	for range 2 {
		for _, w := range s.of(isThing) {
			n, _ := length(t, s.h, w)
			for i := range int64(n) {
				first, _ := load(t, s.h, w, i)
				wantLoad(t, s.h, w, i, first)
			}
		}
		wantSame(t, s.h, "all of it", s.cells)
	}
}
