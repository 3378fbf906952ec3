package buf_test

import (
	"math"
	"slices"
	"testing"

	"casket/api"
	"casket/heap"
)

// Promise 9.7 (W7), W2 and R4: what is loaded behind a store; other elements; views of the same bytes; long lists of calls.

// elements are all of a thing.
func elements(t *testing.T, h *heap.Heap, w uint64) []uint64 {
	t.Helper()
	n, _ := length(t, h, w)
	var all []uint64
	for i := range int64(n) {
		all = append(all, must(load(t, h, w, i)))
	}
	return all
}

// wantElements asks for all of a thing.
func wantElements(t *testing.T, h *heap.Heap, w uint64, want ...uint64) {
	t.Helper()
	if got := elements(t, h, w); !slices.Equal(got, want) {
		t.Fatalf("the elements of %x are %x; want %x", w, got, want)
	}
}

// Of each kind, each place: what was stored is loaded, and the others are as they were.
func TestLoadBehindStore(t *testing.T) {
	for kind, all := range map[int][]uint64{
		api.F64: {doubleWord(1.5), doubleWord(-0.1), 1 << 63, api.Canon, doubleWord(math.Inf(-1)), 1},
		api.F32: {doubleWord(1.5), doubleWord(-0.125), 1 << 63, api.Canon, doubleWord(math.Inf(-1)), 0x36a0000000000000},
		api.I16: {smallWord(1), smallWord(-1), smallWord(-32768), smallWord(32767), smallWord(255), smallWord(-256)},
		api.U8:  {smallWord(1), smallWord(255), smallWord(0), smallWord(128), smallWord(127), smallWord(254)},
		api.Row: {smallWord(1), nilWord, shortWord("hello"), trueWord, doubleWord(0.1), api.Canon},
	} {
		for i := range all {
			h := newHeap(t, 40)
			w := wantNew(t, h, kind, int64(len(all)))
			for j, x := range all {
				wantStore(t, h, w, int64(j), x)
			}
			wantElements(t, h, w, all...)
			for _, x := range all {
				wantStore(t, h, w, int64(i), x)
				want := slices.Clone(all)
				want[i] = x
				wantElements(t, h, w, want...)
			}
		}
	}
}

// What was loaded and is stored again is loaded once more: it was rounded already.
func TestStoreOfWhatWasLoaded(t *testing.T) {
	for _, kind := range buffers {
		h := newHeap(t, 20)
		b := put(t, h, buffer(kind, counted(64)...))
		ahead := elements(t, h, b)
		for i, x := range ahead {
			wantStore(t, h, b, int64(i), x)
		}
		wantElements(t, h, b, ahead...)
		wantBytes(t, h, b, counted(64)...)
	}
}

// One store, seen through a buffer and views of each kind, by hand.
func TestStoreThroughViews(t *testing.T) {
	h := newHeap(t, 30)
	b := wantNew(t, h, api.U8, 16)
	wide := wantView(t, h, b, api.F64, 0, 2, b, 0)
	narrow := wantView(t, h, b, api.F32, 4, 3, b, 4, wide)
	whole := wantView(t, h, b, api.I16, 6, 4, b, 6, wide, narrow)
	bytes := wantView(t, h, wide, api.U8, 7, 3, b, 7, narrow, whole)

	wantStore(t, h, wide, 0, 0x4008123456789abc)
	wantBytes(t, h, b, 0xbc, 0x9a, 0x78, 0x56, 0x34, 0x12, 0x08, 0x40, 0, 0, 0, 0, 0, 0, 0, 0)
	wantElements(t, h, narrow, canonical(float64(math.Float32frombits(0x40081234))), 0, 0)
	wantElements(t, h, whole, smallWord(0x4008), smallWord(0), smallWord(0), smallWord(0))
	wantElements(t, h, bytes, smallWord(0x40), smallWord(0), smallWord(0))

	wantStore(t, h, whole, 1, smallWord(-2))
	wantBytes(t, h, b, 0xbc, 0x9a, 0x78, 0x56, 0x34, 0x12, 0x08, 0x40, 0xfe, 0xff, 0, 0, 0, 0, 0, 0)
	wantElements(t, h, wide, 0x4008123456789abc, 0xfffe)
	wantElements(t, h, bytes, smallWord(0x40), smallWord(0xfe), smallWord(0xff))

	wantStore(t, h, narrow, 2, doubleWord(-1))
	wantElements(t, h, wide, 0x4008123456789abc, 0xbf8000000000fffe)
	wantElements(t, h, whole, smallWord(0x4008), smallWord(-2), smallWord(0), smallWord(0))

	wantStore(t, h, bytes, 0, smallWord(0xc0))
	wantLoad(t, h, wide, 0, 0xc008123456789abc)
	wantLoad(t, h, whole, 0, smallWord(-0x3ff8))

	wantStore(t, h, b, 15, smallWord(0x7f))
	wantStore(t, h, b, 14, smallWord(0xf0))
	wantElements(t, h, wide, 0xc008123456789abc, api.Canon) // a NaN now, by its bytes
	wantBytes(t, h, b, 0xbc, 0x9a, 0x78, 0x56, 0x34, 0x12, 0x08, 0xc0, 0xfe, 0xff, 0, 0, 0, 0, 0xf0, 0x7f)
}

// A NaN that was written as bytes is loaded as the canonical one, and its bytes stay.
func TestNaNsThroughViews(t *testing.T) {
	h := newHeap(t, 10)
	b := wantNew(t, h, api.U8, 8)
	wide := wantView(t, h, b, api.F64, 0, 1, b, 0)
	narrow := wantView(t, h, b, api.F32, 0, 2, b, 0, wide)
	r := wantNew(t, h, api.Row, 1, wide, narrow)
	for _, x := range slices.Concat(strays, []uint64{nilWord, trueWord, smallWord(7), shortWord("ab"), b, r, 0xfffffffffff80001}) {
		for i, c := range bytesOf(x, 8) {
			wantStore(t, h, b, int64(i), smallWord(int64(c)))
		}
		wantLoad(t, h, wide, 0, api.Canon)
		wantBytes(t, h, b, bytesOf(x, 8)...)
		if x>>32 > 0xff800000 {
			wantLoad(t, h, narrow, 1, api.Canon)
		}
		wantStore(t, h, r, 0, must(load(t, h, wide, 0)))
		wantLoad(t, h, r, 0, api.Canon)
		wantStore(t, h, wide, 0, must(load(t, h, r, 0)))
		wantBytes(t, h, b, bytesOf(api.Canon, 8)...)
	}
}

// Each element of each view of a buffer is written once: no byte beside it changes, of the buffer or of another one.
func TestStoreTouchesItsOwnBytes(t *testing.T) {
	for _, kind := range buffers {
		for _, from := range []int{0, 8, 16} {
			for n := range 16/width(kind) + 1 {
				h := newHeap(t, 30)
				ahead := put(t, h, buffer(api.U8, slices.Repeat([]byte{0x5a}, 8)...))
				b := put(t, h, buffer(api.U8, counted(32)...), ahead)
				behind := put(t, h, buffer(api.U8, slices.Repeat([]byte{0xa5}, 8)...), ahead, b)
				v := wantView(t, h, b, kind, int64(from), int64(n), b, from, ahead, behind)
				for i := range n {
					wantStore(t, h, v, int64(i), smallWord(int64(200-i)%127))
				}
				wantBytes(t, h, ahead, slices.Repeat([]byte{0x5a}, 8)...)
				wantBytes(t, h, behind, slices.Repeat([]byte{0xa5}, 8)...)
				c, _ := h.Get(b)
				was, end := counted(32), from+n*width(kind)
				if !slices.Equal(c.Bytes[:from], was[:from]) || !slices.Equal(c.Bytes[end:], was[end:]) {
					t.Fatalf("a view of the bytes %d to %d has written beyond: %x", from, end, c.Bytes)
				}
			}
		}
	}
}

// Behind each store, what each view loads is what the bytes say.
func TestEachViewOfEachByte(t *testing.T) {
	h := newHeap(t, 40)
	b := wantNew(t, h, api.U8, 16)
	var views []uint64
	for _, kind := range buffers {
		for from := 0; from < 16; from += width(kind) {
			views = append(views, put(t, h, view(kind, b, from, (16-from)/width(kind)), views...))
		}
	}
	bytes := make([]byte, 16)
	dice := chance(7)
	for range 50 {
		i := dice.below(16)
		bytes[i] = []byte{0, 1, 0x7f, 0x80, 0xf0, 0xf8, 0xff, byte(dice.word())}[dice.below(8)]
		wantStore(t, h, b, int64(i), smallWord(int64(bytes[i])))
		wantBytes(t, h, b, bytes...)
		for _, v := range views {
			elements(t, h, v) // the model says what they are
		}
	}
}

// player works with things by chance. The calls that it makes look at all that the heap holds behind them.
type player struct {
	chance
	h     *heap.Heap
	roots []uint64
}

func newPlayer(t *testing.T, seed, units int) *player {
	return &player{chance: chance(seed), h: newHeap(t, units)}
}

// others are words that need no cell.
var others = slices.Concat(plains, strays, nobodys)

// pick is some word: mostly one of a cell that is held, at times another one, or none at all.
func (p *player) pick() uint64 {
	if len(p.roots) == 0 || p.below(8) == 0 {
		return others[p.below(len(others))]
	}
	return p.roots[p.below(len(p.roots))]
}

// kind is mostly one of a thing.
func (p *player) kind() int {
	if p.below(20) == 0 {
		return noKinds[p.below(len(noKinds))]
	}
	return things[p.below(len(things))]
}

// place is mostly about 0 to n.
func (p *player) place(n int) int64 {
	if p.below(20) == 0 {
		return far[p.below(len(far))]
	}
	return int64(p.below(n+2)) - int64(p.below(8)/7)
}

// number is some word of a number, or another one.
func (p *player) number() uint64 {
	switch p.below(6) {
	case 0:
		return smallWord(int64(p.below(256)))
	case 1:
		return smallWord(int64(p.below(1<<17)) - 1<<16)
	case 2:
		return canonical(math.Float64frombits(p.word()))
	case 3:
		return canonical(float64(math.Float32frombits(uint32(p.word()))))
	}
	return p.pick()
}

func (p *player) step(t *testing.T) {
	t.Helper()
	w := p.pick()
	n, _ := length(t, p.h, w)
	switch p.below(12) {
	case 0:
		made, e := newThing(t, p.h, p.kind(), p.place(12), p.roots...)
		p.remember(made, e)
	case 1, 2:
		p.maybeForget()
		made, e := newView(t, p.h, w, p.kind(), p.place(8*n), p.place(n), p.roots...)
		p.remember(made, e)
	case 3:
		made, e := p.h.Put(number(int64(p.word())>>p.below(64)), p.roots)
		p.remember(made, e)
	case 4:
		p.maybeForget()
		p.h.Collect(p.roots)
	case 5, 6:
		load(t, p.h, w, p.place(n))
	default:
		i, x := p.place(n), p.number()
		if store(t, p.h, w, i, x) == api.OK {
			load(t, p.h, w, i)
		}
	}
}

func (p *player) remember(w uint64, e api.Errno) {
	if e == api.ErrMemory {
		p.forget()
	}
	if e == api.OK {
		p.roots = append(p.roots, w)
	}
}

func (p *player) maybeForget() {
	if p.below(3) == 0 {
		p.forget()
	}
}

// forget lets some go: what they hold may be reached by others all the same.
func (p *player) forget() {
	p.roots = slices.DeleteFunc(p.roots, func(uint64) bool { return p.below(4) == 0 })
}

func TestLongLists(t *testing.T) {
	for seed, units := range []int{0, 1, 2, 3, 5, 10, 20, 40, 80} {
		p := newPlayer(t, seed, units)
		for range 2000 {
			p.step(t)
		}
	}
}

// Two heaps have nothing to do with each other: each does what it does alone.
func TestTwoHeaps(t *testing.T) {
	one, other, alone := newPlayer(t, 1, 40), newPlayer(t, 2, 60), newPlayer(t, 1, 40)
	for i := range 2000 {
		if i%5 < 3 {
			one.step(t)
		} else {
			other.step(t)
		}
	}
	for range 1200 {
		alone.step(t)
	}
	if !slices.Equal(one.roots, alone.roots) {
		t.Errorf("words beside another heap: %x; alone: %x", one.roots, alone.roots)
	}
	wantSame(t, one.h, "the same calls", held(alone.h))
}
