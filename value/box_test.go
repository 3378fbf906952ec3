package value_test

import (
	"slices"
	"strings"
	"testing"

	"casket/api"
)

// Promise 7.2: the words that Box answers, of each kind of 7.1. What it refuses stands in wrong_test.go, ErrMemory in memory_test.go.

func TestBoxNilAndTruths(t *testing.T) {
	h := newHeap(t, 0)
	wantBox(t, h, ofNil(), nilWord)
	wantBox(t, h, ofBool(0), falseWord)
	wantBox(t, h, ofBool(1), trueWord)
}

func TestBoxInts(t *testing.T) {
	h := newHeap(t, 100)
	for _, i := range smalls {
		wantBox(t, h, ofInt(i), smallWord(i))
	}
	wantBox(t, h, ofInt(leastSmall), 0xfff9800000000000)
	wantBox(t, h, ofInt(mostSmall), 0xfff97fffffffffff)
	var all []uint64
	for _, i := range greats {
		all = append(all, wantCell(t, h, ofInt(i), number(i), all...))
	}
	for i, w := range all {
		wantUnbox(t, h, w, ofInt(greats[i]))
	}
	if n := h.Reach(all); n != 2*len(greats) {
		t.Errorf("%d whole numbers need %d units", len(greats), n)
	}
}

func TestBoxFloats(t *testing.T) {
	h := newHeap(t, 0)
	for _, bits := range doubles {
		wantBox(t, h, ofFloat(bits), bits)
	}
	for _, bits := range otherNaNs {
		wantBox(t, h, ofFloat(bits), api.Canon)
	}
	c := chance(1)
	for range 2000 {
		bits := c.word()
		wantBox(t, h, ofFloat(bits), canonical(bits))
		wantBox(t, h, ofFloat(bits|0x7ff<<52), canonical(bits|0x7ff<<52))
		wantBox(t, h, ofFloat(1<<(bits%52)|0xfff<<52), api.Canon)
		wantBox(t, h, ofFloat(1<<(bits%52)|0x7ff<<52), api.Canon)
	}
}

func TestBoxTexts(t *testing.T) {
	h := newHeap(t, 3000)
	for _, s := range shorts {
		wantBox(t, h, ofText(s), shortWord(s))
	}
	var all []uint64
	for _, s := range longs {
		all = append(all, wantCell(t, h, ofText(s), text(s), all...))
	}
	for i, w := range all {
		wantUnbox(t, h, w, ofText(longs[i]))
	}
}

// Each length, with each byte at each place of the short ones.
func TestBoxTextLengths(t *testing.T) {
	h := newHeap(t, 100)
	for n := range 40 {
		for b := range 256 {
			s := strings.Repeat(string([]byte{byte(b)}), n)
			if n > 5 {
				wantCell(t, h, ofText(s), text(s))
				break
			}
			wantBox(t, h, ofText(s), shortWord(s))
			for i := range n {
				mixed := strings.Repeat("\x00", i) + string([]byte{byte(b)}) + strings.Repeat("\xff", n-i-1)
				wantBox(t, h, ofText(mixed), shortWord(mixed))
			}
		}
	}
}

// A thing's word is its Ref; a view is a thing of its elements' Kind. The roots have no say in it.
func TestBoxThings(t *testing.T) {
	s := newSample(t, 200)
	for w, c := range s.cells {
		if slices.Contains(things, c.Kind) {
			wantBox(t, s.h, ofThing(c.Kind, w), w)
			wantBox(t, s.h, ofThing(c.Kind, w), w, w)
			wantBox(t, s.h, ofThing(c.Kind, w), w, words(s.cells)...)
		}
	}
	for _, kind := range buffers {
		w := s.find(t, kind, true)
		wantBox(t, s.h, ofThing(kind, w), w)
	}
	s.wantAll(t)
}

// Each time a new cell: the same number or string twice has two.
func TestBoxTwice(t *testing.T) {
	h := newHeap(t, 20)
	for _, v := range []api.Value{ofInt(1 << 60), ofText("hello!")} {
		a, _ := box(t, h, v)
		b, _ := box(t, h, v, a)
		if a == b {
			t.Errorf("Box(%s) is %x twice", tell(v), a)
		}
	}
}

// What needs no cell sweeps nothing, however full the heap.
func TestBoxWithoutUnits(t *testing.T) {
	full := newHeap(t, 2)
	r := put(t, full, row(smallWord(1)))
	wantBox(t, full, ofThing(api.Row, r), r)
	none := newHeap(t, 0)
	for _, v := range []api.Value{ofNil(), ofBool(0), ofBool(1), ofInt(leastSmall), ofInt(mostSmall), ofFloat(0), ofFloat(handleWord(0)), ofText(""), ofText("hello")} {
		if _, e := box(t, none, v); e != api.OK {
			t.Errorf("Box(%s) in a heap of 0 units is %d", tell(v), e)
		}
		if _, e := box(t, full, v); e != api.OK {
			t.Errorf("Box(%s) in a full heap is %d", tell(v), e)
		}
	}
	if c, e := full.Get(r); e != api.OK || c.Kind != api.Row {
		t.Errorf("the row is gone: %d", e)
	}
}
