package value_test

import (
	"slices"
	"testing"

	"casket/api"
	"casket/heap"
	"casket/value"
)

// Promise 7.3: Unbox, of each class of words and each sort of cells.

func TestUnboxPlain(t *testing.T) {
	for _, h := range []*heap.Heap{newHeap(t, 0), newSample(t, 200).h} {
		wantUnbox(t, h, nilWord, ofNil())
		wantUnbox(t, h, falseWord, ofBool(0))
		wantUnbox(t, h, trueWord, ofBool(1))
		for _, i := range smalls {
			wantUnbox(t, h, smallWord(i), ofInt(i))
		}
		for _, bits := range doubles {
			wantUnbox(t, h, bits, ofFloat(bits))
		}
		for _, s := range shorts {
			wantUnbox(t, h, shortWord(s), ofText(s))
		}
	}
}

func TestUnboxStray(t *testing.T) {
	for _, h := range []*heap.Heap{newHeap(t, 0), newSample(t, 200).h} {
		for _, w := range strays {
			wantNoUnbox(t, h, w, api.ErrStray)
		}
	}
}

// valueOf says what 7.3 says of a cell.
func valueOf(w uint64, c api.Cell) api.Value {
	switch c.Kind {
	case api.Int:
		return ofInt(c.Int)
	case api.Text:
		return ofText(c.Text)
	}
	return ofThing(c.Kind, w)
}

// A cell is a whole number or a string, of whatever number or length, or a thing: a view, too, of its elements' Kind.
func TestUnboxCells(t *testing.T) {
	s := newSample(t, 200)
	for w, c := range s.cells {
		wantUnbox(t, s.h, w, valueOf(w, c))
	}
	s.wantAll(t)
	for _, kind := range buffers {
		b, v := s.find(t, kind, false), s.find(t, kind, true)
		wantUnbox(t, s.h, b, api.Value{Kind: kind, Ref: b})
		wantUnbox(t, s.h, v, api.Value{Kind: kind, Ref: v})
	}
	r := s.find(t, api.Row, false)
	wantUnbox(t, s.h, r, api.Value{Kind: api.Row, Ref: r})
}

// Cells Int and Text that hold what would have needed none.
func TestUnboxNeedlessCells(t *testing.T) {
	h := newHeap(t, 300)
	var all []uint64
	for _, i := range slices.Concat(smalls, greats) {
		all = append(all, put(t, h, number(i), all...))
		wantUnbox(t, h, all[len(all)-1], ofInt(i))
	}
	h.Collect(nil)
	for _, s := range shorts {
		wantUnbox(t, h, put(t, h, text(s)), ofText(s))
	}
}

func TestUnboxHandlesOfNoCell(t *testing.T) {
	s := newSample(t, 200)
	for _, w := range append(nobodys, s.gone) {
		wantNoUnbox(t, s.h, w, api.ErrHandle)
	}
	empty := newHeap(t, 100)
	for w := range s.cells {
		wantNoUnbox(t, empty, w, api.ErrHandle)
	}
	s.h.Collect(nil)
	for w := range s.cells {
		wantNoUnbox(t, s.h, w, api.ErrHandle)
	}
}

// A handle that was given anew is of the new cell.
func TestUnboxHandleGivenAnew(t *testing.T) {
	h := newHeap(t, 2)
	for i := range 10 {
		for _, v := range []api.Value{ofInt(1<<60 + int64(i)), ofText("anew " + string(rune('0'+i)))} {
			w, e := box(t, h, v)
			if e != api.OK {
				t.Fatalf("Box(%s) is %d", tell(v), e)
			}
			wantUnbox(t, h, w, v)
		}
	}
	r := put(t, h, row(smallWord(1)))
	wantUnbox(t, h, r, ofThing(api.Row, r))
}

// What elements have has no say in a thing's value; it is no copy of them.
func TestUnboxBehindWrites(t *testing.T) {
	h := newHeap(t, 20)
	b := put(t, h, buffer(api.I16, 1, 2, 3, 4))
	r := put(t, h, row(b, b), b)
	if e := h.Write(b, 0, 2, 0xffff); e != api.OK {
		t.Fatal(e)
	}
	if e := h.Set(r, 0, r); e != api.OK {
		t.Fatal(e)
	}
	wantUnbox(t, h, b, ofThing(api.I16, b))
	wantUnbox(t, h, r, ofThing(api.Row, r))
	wantBox(t, h, ofThing(api.I16, b), b)
	wantBox(t, h, ofThing(api.Row, r), r)
}

// Whatever the word: it is a value or refused, and Unbox changes nothing.
func TestUnboxWhatever(t *testing.T) {
	s := newSample(t, 200)
	c := chance(3)
	for range 20000 {
		w := c.word()
		switch c.below(4) {
		case 0:
			w |= 0xfff8 << 48
		case 1:
			w = 0xfff8<<48 | w&(7<<48|0xff)
		}
		v, e := value.Unbox(s.h, w)
		want, class := expectedOf(s, w)
		if v != want || e != class {
			t.Fatalf("Unbox(%x) is %s, %d; want %s, %d", w, tell(v), e, tell(want), class)
		}
	}
	s.wantAll(t)
}

// expectedOf reads a word by chapter 1's rules.
func expectedOf(s *sample, w uint64) (api.Value, api.Errno) {
	if canonical(w) == w {
		return ofFloat(w), api.OK
	}
	load := w & (1<<48 - 1)
	switch w >> 48 {
	case 0xfff8:
		if load <= 2 {
			return []api.Value{ofNil(), ofBool(0), ofBool(1)}[load], api.OK
		}
	case 0xfff9:
		if load >= 1<<47 {
			return ofInt(int64(load) - 1<<48), api.OK
		}
		return ofInt(int64(load)), api.OK
	case 0xfffa:
		n, room := load>>40, load&(1<<40-1)
		if n <= 5 && room>>(8*n) == 0 {
			b := []byte{byte(room), byte(room >> 8), byte(room >> 16), byte(room >> 24), byte(room >> 32)}
			return ofText(string(b[:n])), api.OK
		}
	case 0xfffb:
		if c, there := s.cells[w]; there {
			return valueOf(w, c), api.OK
		}
		return api.Value{}, api.ErrHandle
	}
	return api.Value{}, api.ErrStray
}
