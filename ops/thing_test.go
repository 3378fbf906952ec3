package ops_test

import (
	"math"
	"slices"
	"testing"

	"casket/api"
	"casket/heap"
)

// Promise 10.4: the built-in functions of things.

// far are whole numbers that are the length and the place of nothing here, at both ends of 64 bits and between.
var far = []int{least, least + 1, -1 << 62, -1 << 47, -1 << 32, -256, -8, -1, 1 << 31, 1 << 32, 1<<32 + 1, 1<<47 - 1, 1 << 47, 1 << 53, 1<<60 + 1, 1 << 61, 1<<62 + 1, most - 7, most - 1, most}

func TestNew(t *testing.T) {
	for _, kind := range things {
		blank := map[int]any{api.F64: isBits(0), api.F32: isBits(0), api.I16: isInt(0), api.U8: isInt(0), api.Row: isNil()}[kind]
		for n := range int64(12) {
			for _, inCell := range []bool{false, true} {
				d := newDesk(t, 40)
				length := smallWord(n)
				if inCell {
					length = d.put(t, number(n))
				}
				w, e := doBuiltin(t, d.h, called(kind), args(length), d.keep...)
				wantIs(t, d.h, called(kind), w, e, isThing(kind, w))
				wantBuiltin(t, d.h, "len", args(w), isInt(n))
				wantBuiltin(t, d.h, "kind", args(w), isText(called(kind)))
				for i := range n {
					wantBuiltin(t, d.h, "load", args(w, smallWord(i)), blank)
				}
				wantBuiltin(t, d.h, "load", args(w, smallWord(n)), api.ErrIndex)
			}
		}
	}
}

func TestNewOfOtherLengths(t *testing.T) {
	for _, kind := range things {
		for _, n := range far {
			d := newDesk(t, 20)
			var want any = api.ErrMemory
			if n < 0 {
				want = api.ErrRange
			}
			wantBuiltin(t, d.h, called(kind), d.words(t, n), want, d.keep...)
		}
		s := newSample(t)
		for _, w := range s.ofEachKind(t) {
			if v, _ := valueIn(s.cells, w); v.Kind != api.Int {
				wantBuiltin(t, s.h, called(kind), args(w), api.ErrType)
			}
		}
		for _, x := range []float64{0, 1, -1, 3, math.NaN(), math.Inf(1)} {
			wantBuiltin(t, s.h, called(kind), args(canonical(x)), api.ErrType)
		}
	}
}

func TestLenOfThings(t *testing.T) {
	s := newSample(t)
	for w, c := range s.cells {
		v, _ := valueIn(s.cells, w)
		switch {
		case c.View:
			wantBuiltin(t, s.h, "len", args(w), isInt(int64(c.Len)))
		case v.Kind == api.Row:
			wantBuiltin(t, s.h, "len", args(w), isInt(int64(len(c.Words))))
		case slices.Contains(buffers, v.Kind):
			wantBuiltin(t, s.h, "len", args(w), isInt(int64(len(c.Bytes)/width(c.Kind))))
		}
	}
}

// bytesDesk has a buffer of each kind, with bytes of its own, and a row.
func bytesDesk(t *testing.T) (*desk, map[int]uint64) {
	t.Helper()
	d, all := newDesk(t, 60), map[int]uint64{}
	for _, kind := range buffers {
		all[kind] = d.put(t, buffer(kind, counted(16)...))
	}
	all[api.Row] = d.put(t, row(nilWord, smallWord(7), shortWord("ab"), all[api.U8]))
	return d, all
}

func TestView(t *testing.T) {
	for _, of := range buffers {
		for _, kind := range buffers {
			d, all := bytesDesk(t)
			base := all[of]
			w, e := doBuiltin(t, d.h, "view", args(base, shortWord(called(kind)), smallWord(8), smallWord(1)), d.keep...)
			wantIs(t, d.h, "view", w, e, isThing(kind, w))
			wantBuiltin(t, d.h, "len", args(w), isInt(1))
			wantBuiltin(t, d.h, "kind", args(w), isText(called(kind)))
			wantCell(t, d.h, w, view(kind, base, 8, 1))
			inner, e := doBuiltin(t, d.h, "view", args(w, shortWord("u8"), smallWord(0), smallWord(int64(width(kind)))), append(d.keep, w)...)
			wantIs(t, d.h, "view", inner, e, isThing(api.U8, inner))
			wantCell(t, d.h, inner, view(api.U8, base, 8, width(kind)))
		}
	}
}

func wantCell(t *testing.T, h *heap.Heap, w uint64, want api.Cell) {
	t.Helper()
	c, e := h.Get(w)
	if e != api.OK || c.Kind != want.Kind || c.View != want.View || c.Base != want.Base || c.From != want.From || c.Len != want.Len {
		t.Fatalf("the cell of %x is %v, %d; want %v", w, c, e, want)
	}
}

func TestViewOfEachPlace(t *testing.T) {
	for _, kind := range buffers {
		for _, from := range slices.Concat(far, []int{0, 1, 2, 3, 4, 7, 8, 12, 15, 16, 17}) {
			for _, n := range slices.Concat(far, []int{0, 1, 2, 4, 8, 16, 17}) {
				d := newDesk(t, 12)
				b := d.put(t, buffer(api.U8, counted(16)...))
				doBuiltin(t, d.h, "view", d.words(t, b, called(kind), from, n), d.keep...)
			}
		}
	}
}

func TestViewByHand(t *testing.T) {
	d, all := bytesDesk(t)
	b := all[api.U8]
	for _, x := range []struct {
		k       any
		from, n any
		want    api.Errno
	}{
		{"i16", 1, 1, api.ErrAlign}, {"f32", 2, 1, api.ErrAlign}, {"f64", 4, 1, api.ErrAlign}, {"u8", 16, 1, api.ErrIndex}, {"u8", 0, 17, api.ErrIndex}, {"f64", 8, 2, api.ErrIndex}, {"u8", -1, 1, api.ErrRange}, {"u8", 0, -1, api.ErrRange}, {"i16", -1, -1, api.ErrRange}, {"i16", 17, 0, api.ErrAlign}, {"u8", 17, 0, api.ErrIndex},
		{"u8", 0.0, 1, api.ErrType}, {"u8", 0, 1.0, api.ErrType}, {"u8", "0", 1, api.ErrType}, {"u8", 0, nil, api.ErrType}, {0, 0, 1, api.ErrType}, {nil, 0, 1, api.ErrType}, {8.0, 0, 1, api.ErrType}, {b, 0, 1, api.ErrType},
		{"zz", 0.0, 1, api.ErrType}, {"zz", 0, true, api.ErrType}, {1, -1, 1, api.ErrType},
		{"zz", -1, 1, api.ErrKind}, {"row", 0, 1, api.ErrKind}, {"text", 1, 99, api.ErrKind},
	} {
		wantBuiltin(t, d.h, "view", d.words(t, b, x.k, x.from, x.n), x.want, d.keep...)
	}
}

// noKinds are texts that are the kind of no buffer: short and long ones, in words and in cells.
var noKinds = []string{"", "row", "nil", "bool", "int", "float", "text", "f16", "f8", "f128", "i8", "i32", "i64", "u16", "u32", "u64", "F64", "U8", "u8 ", " u8", "u", "8", "u88", "f64\x00", "\x00", "f64f32", "u8 or i16"}

func TestViewOfNoKind(t *testing.T) {
	s := newSample(t)
	for _, k := range noKinds {
		for _, w := range s.ofEachKind(t) { // ahead of what is wrong with the buffer, and with the places
			d := desk{h: s.h, keep: slices.Clone(s.keep)}
			word := d.text(t, k)
			for _, place := range []int64{0, 1, -1, 1 << 40} {
				wantBuiltin(t, s.h, "view", args(w, word, smallWord(place), smallWord(-place)), api.ErrKind, d.keep...)
			}
		}
	}
}

// A kind's name may stand in a cell.
func TestViewOfKindsInCells(t *testing.T) {
	for _, kind := range buffers {
		d, all := bytesDesk(t)
		k, from, n := d.put(t, textCell(called(kind))), d.put(t, number(8)), d.put(t, number(1))
		w, e := doBuiltin(t, d.h, "view", args(all[api.F64], k, from, n), d.keep...)
		wantIs(t, d.h, "view", w, e, isThing(kind, w))
	}
}

// Of other things than buffers there is no view.
func TestViewOfOtherKinds(t *testing.T) {
	s := newSample(t)
	for _, w := range s.ofEachKind(t) {
		v, _ := valueIn(s.cells, w)
		for _, kind := range buffers {
			k := shortWord(called(kind))
			if !slices.Contains(buffers, v.Kind) {
				wantBuiltin(t, s.h, "view", args(w, k, smallWord(0), smallWord(0)), api.ErrType)
				wantBuiltin(t, s.h, "view", args(w, k, smallWord(-1), smallWord(1<<40)), api.ErrType)
			}
		}
	}
}

// Each four words, one of each kind in each place.
func TestViewOfEachFour(t *testing.T) {
	s := newSample(t)
	few := []uint64{nilWord, trueWord, smallWord(0), smallWord(8), doubleWord(0), shortWord("u8"), shortWord("i16"), shortWord("row"), s.find(t, number(5)), s.find(t, textCell("hello!")), s.find(t, row())}
	base := s.find(t, buffer(api.U8, counted(16)...))
	for _, a := range append(slices.Clone(few), base, s.find(t, view(api.I16, base, 8, 1))) {
		for _, b := range few {
			for _, c := range few {
				for _, n := range few {
					doBuiltin(t, s.h, "view", args(a, b, c, n), s.keep...)
				}
			}
		}
	}
}

func TestLoad(t *testing.T) {
	d, all := bytesDesk(t)
	for _, x := range []struct {
		kind int
		i    int
		want any
	}{
		{api.U8, 0, isInt(1)}, {api.U8, 15, isInt(0)}, {api.U8, 14, isInt(239)}, {api.I16, 0, isInt(0x1201)}, {api.I16, 7, isInt(0x00ef)}, {api.I16, 6, isInt(0xdecd - 0x10000)}, {api.F64, 0, isBits(0x7867564534231201)}, {api.F64, 1, isBits(0x00efdecdbcab9a89)}, {api.F32, 0, isDouble(float64(math.Float32frombits(0x34231201)))}, {api.Row, 0, isNil()}, {api.Row, 1, isInt(7)}, {api.Row, 2, isText("ab")}, {api.Row, 3, isThing(api.U8, all[api.U8])},
		{api.U8, 16, api.ErrIndex}, {api.I16, 8, api.ErrIndex}, {api.F32, 4, api.ErrIndex}, {api.F64, 2, api.ErrIndex}, {api.Row, 4, api.ErrIndex},
	} {
		wantBuiltin(t, d.h, "load", d.words(t, all[x.kind], x.i), x.want, d.keep...)
		wantBuiltin(t, d.h, "load", args(all[x.kind], put(t, d.h, number(int64(x.i)), d.keep...)), x.want, d.keep...)
	}
	for _, kind := range things {
		for _, i := range far {
			d, all := bytesDesk(t)
			wantBuiltin(t, d.h, "load", d.words(t, all[kind], i), api.ErrIndex, d.keep...)
		}
	}
}

// A row's word is told as it stands: no new cell, though the number in it is not small.
func TestLoadOfWords(t *testing.T) {
	d := newDesk(t, 12)
	n, s := d.put(t, number(1<<60)), d.put(t, textCell("hello!"))
	five := d.put(t, number(5))
	r := d.put(t, row(n, s, five))
	fill(t, d.h)
	for i, want := range []uint64{n, s, five} {
		if got, e := doBuiltin(t, d.h, "load", args(r, smallWord(int64(i)))); got != want || e != api.OK {
			t.Errorf("load of the word %x is %x, %d", want, got, e)
		}
	}
}

// Each two words in load, one of each kind in each place.
func TestLoadOfEachTwo(t *testing.T) {
	s := newSample(t)
	for _, a := range s.all() {
		for _, b := range s.all() {
			doBuiltin(t, s.h, "load", args(a, b))
			doBuiltin(t, s.h, "byte", args(a, b))
		}
	}
}

// The answer of store is nil, whatever was stored; then it is there.
func TestStore(t *testing.T) {
	for _, x := range []struct {
		kind    int
		x, want any
	}{
		{api.U8, 0, isInt(0)}, {api.U8, 255, isInt(255)}, {api.U8, 256, api.ErrRange}, {api.U8, -1, api.ErrRange}, {api.U8, 1.0, api.ErrType}, {api.U8, most, api.ErrRange}, {api.U8, least, api.ErrRange},
		{api.I16, 32767, isInt(32767)}, {api.I16, -32768, isInt(-32768)}, {api.I16, 32768, api.ErrRange}, {api.I16, -32769, api.ErrRange}, {api.I16, 0.0, api.ErrType}, {api.I16, 1 << 47, api.ErrRange},
		{api.F32, 1, isDouble(1)}, {api.F32, 0.1, isDouble(float64(float32(0.1)))}, {api.F32, math.NaN(), isBits(api.Canon)}, {api.F32, 1e300, isDouble(math.Inf(1))}, {api.F32, 1<<24 + 1, isDouble(0x1p24)}, {api.F32, "1", api.ErrType},
		{api.F64, 1<<53 + 1, isDouble(0x1p53)}, {api.F64, 0.1, isDouble(0.1)}, {api.F64, math.NaN(), isBits(api.Canon)}, {api.F64, math.Copysign(0, -1), isBits(1 << 63)}, {api.F64, least, isDouble(-0x1p63)}, {api.F64, nil, api.ErrType}, {api.F64, true, api.ErrType},
		{api.Row, nil, isNil()}, {api.Row, true, isTruth(true)}, {api.Row, 5, isInt(5)}, {api.Row, 1 << 60, isInt(1 << 60)}, {api.Row, 0.5, isDouble(0.5)}, {api.Row, "hello!", isText("hello!")}, {api.Row, math.NaN(), isBits(api.Canon)},
	} {
		d, all := bytesDesk(t)
		words := d.words(t, all[x.kind], 1, x.x)
		if e, refusal := x.want.(api.Errno); refusal {
			wantBuiltin(t, d.h, "store", words, e, d.keep...)
			continue
		}
		if w := wantBuiltin(t, d.h, "store", words, isNil(), d.keep...); w != 0xfff8000000000000 {
			t.Errorf("store is %x", w)
		}
		wantBuiltin(t, d.h, "load", words[:2], x.want, d.keep...)
		if x.kind == api.Row {
			if w, _ := doBuiltin(t, d.h, "load", words[:2]); w != words[2] {
				t.Errorf("%x was stored, and is %x", words[2], w)
			}
		}
	}
}

// A row may hold itself; each element of each thing is stored in its place.
func TestStoreOfThings(t *testing.T) {
	d, all := bytesDesk(t)
	r := all[api.Row]
	for i, kind := range []int{api.Row, api.F64, api.F32, api.U8} {
		wantBuiltin(t, d.h, "store", args(r, smallWord(int64(i)), all[kind]), isNil())
	}
	for i, kind := range []int{api.Row, api.F64, api.F32, api.U8} {
		wantBuiltin(t, d.h, "load", args(r, smallWord(int64(i))), isThing(kind, all[kind]))
	}
	for _, kind := range buffers {
		for _, x := range things {
			wantBuiltin(t, d.h, "store", args(all[kind], smallWord(0), all[x]), api.ErrType)
		}
		n, _ := doBuiltin(t, d.h, "len", args(all[kind]))
		v, _ := valueIn(nil, n)
		for i := range v.Int {
			wantBuiltin(t, d.h, "store", args(all[kind], smallWord(i), smallWord(i+3)), isNil())
		}
		for i := range v.Int {
			w, _ := doBuiltin(t, d.h, "load", args(all[kind], smallWord(i)))
			wantBinary(t, d.h, "==", w, smallWord(i+3), isTruth(true))
		}
	}
}

// Places that are none, told ahead of what is wrong with what is stored but for what is no value at all.
func TestStoreOfOtherPlaces(t *testing.T) {
	for _, kind := range things {
		for _, i := range append(slices.Clone(far), 16) {
			for _, x := range []any{0, 256, nil, "ab", 0.5} {
				d, all := bytesDesk(t)
				wantBuiltin(t, d.h, "store", d.words(t, all[kind], i, x), api.ErrIndex, d.keep...)
			}
		}
		d, all := bytesDesk(t)
		for _, i := range []any{0.0, nil, "0", true, all[api.U8]} {
			wantBuiltin(t, d.h, "store", d.words(t, all[kind], i, 0), api.ErrType)
			wantBuiltin(t, d.h, "store", d.words(t, nil, i, 0), api.ErrType)
		}
		wantBuiltin(t, d.h, "store", args(all[kind], smallWord(99), strays[0]), api.ErrStray)
		wantBuiltin(t, d.h, "store", args(all[kind], nilWord, nobodys[0]), api.ErrHandle)
	}
}

// Each three words, one of each kind in each place.
func TestStoreOfEachThree(t *testing.T) {
	s := newSample(t)
	few := s.ofEachKind(t)
	for _, a := range few {
		for _, i := range append(slices.Clone(few), smallWord(0), smallWord(-1)) {
			for _, x := range few {
				doBuiltin(t, s.h, "store", args(a, i, x), s.keep...)
			}
		}
	}
}

// What a view writes, its buffer tells.
func TestStoreThroughViews(t *testing.T) {
	d, all := bytesDesk(t)
	b := all[api.U8]
	v, _ := doBuiltin(t, d.h, "view", args(b, shortWord("i16"), smallWord(2), smallWord(3)), d.keep...)
	wantBuiltin(t, d.h, "store", args(v, smallWord(1), smallWord(-2)), isNil())
	wantBuiltin(t, d.h, "load", args(b, smallWord(4)), isInt(254))
	wantBuiltin(t, d.h, "load", args(b, smallWord(5)), isInt(255))
	wantBuiltin(t, d.h, "store", args(b, smallWord(7), smallWord(128)), isNil())
	wantBuiltin(t, d.h, "store", args(b, smallWord(6), smallWord(1)), isNil())
	wantBuiltin(t, d.h, "load", args(v, smallWord(2)), isInt(-32767))
	wantBuiltin(t, d.h, "store", args(v, smallWord(3), smallWord(0)), api.ErrIndex)
}
