package ops_test

import (
	"fmt"
	"slices"
	"testing"

	"casket/api"
	"casket/heap"
	"casket/ops"
)

// Promise 10.1 (W8): what is made is put with roots, and with what was handed in. The model looks at what is held behind each call.

// making is a call that makes a cell: what it does (an operator, or the name of a built-in function), of which cells and words; the units that it needs; and which value, if it is none of a thing.
type making struct {
	what string
	of   []any // api.Cell: it is put; all else is a word
	need int
	want any
}

func (m making) String() string { return fmt.Sprintf("%s of %v", m.what, m.of) }

func makings() []making {
	small := number(1) // small numbers stand in cells, too
	bytes, view8 := buffer(api.U8, counted(16)...), textCell("u8")
	return []making{
		{"-", []any{number(1 << 50)}, 2, isInt(-1 << 50)}, {"-", []any{uint64(smallWord(-1 << 47))}, 2, isInt(1 << 47)}, {"~", []any{number(1 << 50)}, 2, isInt(^(1 << 50))},
		{"+", []any{number(1 << 50), number(1 << 51)}, 2, isInt(3 << 50)}, {"+", []any{smallWord(1<<47 - 1), smallWord(1)}, 2, isInt(1 << 47)}, {"+", []any{number(1 << 50), small}, 2, isInt(1<<50 + 1)}, {"+", []any{small, number(1 << 50)}, 2, isInt(1<<50 + 1)},
		{"-", []any{number(1 << 51), number(1 << 50)}, 2, isInt(1 << 50)}, {"*", []any{number(1 << 30), number(1 << 30)}, 2, isInt(1 << 60)}, {"//", []any{number(1 << 60), number(2)}, 2, isInt(1 << 59)}, {"%", []any{number(1 << 60), number(1 << 61)}, 2, isInt(1 << 60)},
		{"&", []any{number(1 << 60), number(-1)}, 2, isInt(1 << 60)}, {"|", []any{number(1 << 60), small}, 2, isInt(1<<60 + 1)}, {"^", []any{number(1 << 60), small}, 2, isInt(1<<60 + 1)}, {"<<", []any{small, number(60)}, 2, isInt(1 << 60)}, {">>", []any{number(1 << 60), small}, 2, isInt(1 << 59)},
		{"+", []any{textCell("hello!"), textCell("hello")}, 3, isText("hello!hello")}, {"+", []any{textCell("ab"), textCell("cdef")}, 2, isText("abcdef")}, {"+", []any{shortWord("abc"), textCell("def")}, 2, isText("abcdef")}, {"+", []any{textCell("abcdef"), shortWord("")}, 2, isText("abcdef")}, {"+", []any{shortWord("abc"), shortWord("def")}, 2, isText("abcdef")},
		{"int", []any{doubleWord(0x1p50)}, 2, isInt(1 << 50)}, {"text", []any{number(1 << 50)}, 3, isText("1125899906842624")}, {"text", []any{number(100000)}, 2, isText("100000")}, {"text", []any{doubleWord(2.5)}, 2, isText("0x1.4p+1")}, {"text", []any{smallWord(-10000)}, 2, isText("-10000")},
		{"num", []any{textCell("1125899906842624")}, 2, isInt(1 << 50)}, {"num", []any{textCell("-9223372036854775808")}, 2, isInt(least)}, {"bits", []any{doubleWord(1)}, 2, isInt(0x3ff0000000000000)},
		{"sub", []any{textCell("many bytes of text"), small, number(9)}, 2, isText("any byte")}, {"sub", []any{textCell("abcdef"), number(0), smallWord(6)}, 2, isText("abcdef")}, {"sub", []any{textCell("abcdefg"), smallWord(0), number(6)}, 2, isText("abcdef")},
		{"f64", []any{number(3)}, 4, nil}, {"f32", []any{number(3)}, 3, nil}, {"i16", []any{number(5)}, 3, nil}, {"u8", []any{number(9)}, 3, nil}, {"row", []any{number(3)}, 4, nil}, {"row", []any{number(0)}, 1, nil},
		{"view", []any{bytes, view8, small, number(2)}, 1, nil}, {"view", []any{bytes, shortWord("i16"), number(2), smallWord(0)}, 1, nil}, {"view", []any{bytes, view8, smallWord(0), smallWord(16)}, 1, nil}, {"view", []any{buffer(api.F64), shortWord("f32"), smallWord(0), number(0)}, 1, nil},
	}
}

// lay puts the cells that a making is of, and answers its words.
func (m making) lay(t *testing.T, h *heap.Heap, roots ...uint64) []uint64 {
	t.Helper()
	var handed []uint64
	for _, x := range m.of {
		if c, cell := x.(api.Cell); cell {
			x = put(t, h, c, slices.Concat(roots, handed)...)
		}
		handed = append(handed, x.(uint64))
	}
	return handed
}

// own is how many units the cells have that it is of.
func (m making) own() int {
	sum := 0
	for _, x := range m.of {
		if c, cell := x.(api.Cell); cell {
			sum += heap.Need(c)
		}
	}
	return sum
}

func (m making) do(t *testing.T, h *heap.Heap, handed []uint64, roots ...uint64) (uint64, api.Errno) {
	t.Helper()
	switch {
	case arities[m.what] > 0:
		return doBuiltin(t, h, m.what, handed, roots...)
	case len(handed) == 1:
		return doUnary(t, h, m.what, handed[0], roots...)
	}
	return doBinary(t, h, m.what, handed[0], handed[1], roots...)
}

func (m making) wantDone(t *testing.T, h *heap.Heap, handed []uint64, e api.Errno, roots ...uint64) {
	t.Helper()
	ahead := held(h)
	w, f := m.do(t, h, handed, roots...)
	if f != e || (w != 0) != (e == api.OK) {
		t.Fatalf("%v is %x, %d; want %d", m, w, f, e)
	}
	if v, isValue := m.want.(api.Value); isValue && e == api.OK {
		wantIs(t, h, m.String(), w, e, v)
	}
	behind := held(h)
	for x, c := range reached(ahead, slices.Concat(roots, handed)...) {
		if got, there := behind[x]; !there || got.Kind != c.Kind {
			t.Fatalf("behind %v the cell %x is gone", m, x)
		}
	}
}

// Nothing but the call reaches what it was handed: that stays, and counts; all else goes, where units are lacking.
func TestMemoryOfWhatWasHandedIn(t *testing.T) {
	for _, m := range makings() {
		h := newHeap(t, m.own()+m.need)
		handed := m.lay(t, h)
		fill(t, h)
		m.wantDone(t, h, handed, api.OK)

		h = newHeap(t, m.own()+m.need-1)
		handed = m.lay(t, h)
		fill(t, h)
		m.wantDone(t, h, handed, api.ErrMemory)
		if m.own() > 0 { // else the heap could never hold it
			wantHeld(t, h, handed...)
		}
	}
}

// Roots reach more: that stays, too, and counts; what is among both counts once.
func TestMemoryWithRoots(t *testing.T) {
	for _, m := range makings() {
		for lack, want := range []api.Errno{api.OK, api.ErrMemory} {
			h := newHeap(t, m.own()+m.need+10-lack)
			handed := m.lay(t, h)
			base := put(t, h, buffer(api.U8, 1, 2, 3), handed...)
			v := put(t, h, view(api.U8, base, 1, 2), append(handed, base)...)
			r := put(t, h, row(v, handed[0], nilWord, handed[len(handed)-1]), handed...)
			n := put(t, h, number(7), append(handed, r)...)
			fill(t, h)
			m.wantDone(t, h, handed, want, r, n, nilWord, handed[0], strays[0], nobodys[0], smallWord(3), r, api.Canon)
			if want != api.OK {
				wantHeld(t, h, append(handed, base, v, r, n)...)
			}
		}
	}
}

// What stands behind roots and arguments in their memory is neither held nor written over.
func TestMemoryBehindLists(t *testing.T) {
	for _, m := range makings() {
		for lack, want := range []api.Errno{api.OK, api.ErrMemory} {
			h := newHeap(t, m.own()+m.need+2-lack)
			handed := m.lay(t, h)
			kept := put(t, h, row(nilWord), handed...)
			fill(t, h)
			m.wantDone(t, h, handed, want, kept)
			if want != api.OK {
				wantHeld(t, h, append(handed, kept)...)
			}
		}
	}
}

// A value with itself counts once.
func TestMemoryOfOneTwice(t *testing.T) {
	for lack, want := range []any{isInt(1 << 61), api.ErrMemory} {
		h := newHeap(t, 4-lack)
		w := put(t, h, number(1<<60))
		fill(t, h)
		wantBinary(t, h, "+", w, w, want)
	}
	for lack, want := range []any{isText("abcdefghabcdefgh"), api.ErrMemory} {
		h := newHeap(t, 5-lack)
		w := put(t, h, textCell("abcdefgh"))
		fill(t, h)
		wantBinary(t, h, "+", w, w, want)
	}
}

// What the heap could never hold is refused by chapter 9 ahead of any sweep.
func TestMemoryOfFarTooMany(t *testing.T) {
	for _, kind := range things {
		h := newHeap(t, 10)
		fill(t, h)
		ahead := held(h)
		for _, n := range []int64{10 * 8, 1 << 40, 1<<47 - 1} {
			wantBuiltin(t, h, called(kind), args(smallWord(n)), api.ErrMemory)
		}
		wantSame(t, h, "what could never be held", ahead)
		w, e := doBuiltin(t, h, called(kind), args(smallWord(int64(9*8/width(kind)))))
		wantIs(t, h, called(kind), w, e, isThing(kind, w))
	}
}

// Roots and arguments that share their memory: neither is changed.
func TestListsThatShare(t *testing.T) {
	h := newHeap(t, 12)
	s, from, to := put(t, h, textCell("hello, all")), uint64(0), uint64(0)
	from = put(t, h, number(0), s)
	to = put(t, h, number(6), s, from)
	list := []uint64{s, from, to, nilWord, s}
	was := slices.Clone(list)
	for _, roots := range [][]uint64{list, list[:3], list[:1], list[2:], list[3:4], nil} {
		w, e := ops.Builtin(h, "sub", list[:3], roots)
		wantIs(t, h, "sub", w, e, isText("hello,"))
		if !slices.Equal(list, was) {
			t.Fatalf("the list %x has become %x", was, list)
		}
	}
}

// Neither list is kept: what stood in it has no say later on.
func TestListsAreNotKept(t *testing.T) {
	h := newHeap(t, 7)
	s := put(t, h, textCell("abcdef"))
	n := put(t, h, number(1), s)
	handed, roots := []uint64{s, smallWord(0), smallWord(6)}, []uint64{n}
	w, e := ops.Builtin(h, "sub", handed, roots)
	wantIs(t, h, "sub", w, e, isText("abcdef"))
	handed[0], roots[0] = nilWord, nilWord
	x := wantUnary(t, h, "-", smallWord(-1<<47), isInt(1<<47)) // what was handed in, or what was made, goes for it
	h.Collect([]uint64{x})
	wantHeld(t, h, x)
	wantBuiltin(t, h, "num", args(shortWord("5")), isInt(5))
}

// Where no cell is needed, a heap without a unit does.
func TestNoMemoryAtAll(t *testing.T) {
	h := newHeap(t, 0)
	wantBinary(t, h, "+", smallWord(1), smallWord(2), isInt(3))
	wantBinary(t, h, "+", shortWord("ab"), shortWord("cde"), isText("abcde"))
	wantBinary(t, h, "+", shortWord("abc"), shortWord("def"), api.ErrMemory)
	wantBinary(t, h, "+", smallWord(1<<47-1), smallWord(1), api.ErrMemory)
	wantBinary(t, h, "+", doubleWord(0x1p50), smallWord(1), isDouble(0x1p50+1))
	wantUnary(t, h, "-", smallWord(-1<<47), api.ErrMemory)
	wantUnary(t, h, "~", smallWord(-1<<47), isInt(1<<47-1))
	wantBuiltin(t, h, "int", args(doubleWord(0x1p47)), api.ErrMemory)
	wantBuiltin(t, h, "int", args(doubleWord(0x1p47-1)), isInt(1<<47-1))
	wantBuiltin(t, h, "bits", args(doubleWord(0x1p-1074)), isInt(1))
	wantBuiltin(t, h, "bits", args(doubleWord(1)), api.ErrMemory)
	wantBuiltin(t, h, "text", args(smallWord(99999)), isText("99999"))
	wantBuiltin(t, h, "text", args(smallWord(100000)), api.ErrMemory)
	wantBuiltin(t, h, "kind", args(doubleWord(1)), isText("float"))
	for _, kind := range things {
		wantBuiltin(t, h, called(kind), args(smallWord(0)), api.ErrMemory)
		wantBuiltin(t, h, called(kind), args(smallWord(-1)), api.ErrRange)
	}
	wantTold(t, h, smallWord(1<<47-1), "140737488355327", api.OK)
}
