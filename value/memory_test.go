package value_test

import (
	"slices"
	"strings"
	"testing"

	"casket/api"
	"casket/value"
)

// Promise 7.2 (W8): a new cell is put with roots; ErrMemory just if these and it are more than the heap's units. The model of box looks at what is held behind it.

// inCells are values that need a cell, with its units.
var inCells = []struct {
	v    api.Value
	need int
}{
	{ofInt(1 << 47), 2}, {ofInt(-1<<47 - 1), 2}, {ofInt(-1 << 63), 2}, {ofText("hello!"), 2}, {ofText("12345678"), 2}, {ofText("123456789"), 3}, {ofText(strings.Repeat("\xff", 24)), 4}, {ofText(strings.Repeat("x", 25)), 5},
}

func TestMemoryOfOneCell(t *testing.T) {
	for _, x := range inCells {
		for units := range 7 {
			_, e := box(t, newHeap(t, units), x.v)
			if fits := units >= x.need; fits != (e == api.OK) {
				t.Errorf("Box(%s) in a heap of %d units is %d", tell(x.v), units, e)
			}
		}
	}
}

// What the roots reach stays, and counts; what they do not reach is in nobody's way.
func TestMemoryWithRoots(t *testing.T) {
	for _, x := range inCells {
		for lack := range 2 {
			h := newHeap(t, 8+x.need-lack)
			loose := put(t, h, number(1))
			b := put(t, h, buffer(api.U8, 1, 2, 3), loose)
			v := put(t, h, view(api.U8, b, 1, 2), loose, b)
			r := put(t, h, row(v, smallWord(1)), loose, b, v)
			n := put(t, h, number(7), r)
			keep := []uint64{b, v, r, n}
			slices.Sort(keep)
			_, e := box(t, h, x.v, r, n, nilWord, smallWord(3), strays[0], nobodys[0])
			if want := []api.Errno{api.OK, api.ErrMemory}[lack]; e != want {
				t.Fatalf("Box(%s) is %d; want %d", tell(x.v), e, want)
			}
			if lack == 1 && !slices.Equal(words(held(h)), keep) {
				t.Errorf("behind ErrMemory the heap holds %x; want %x", words(held(h)), keep)
			}
		}
	}
}

// Without the roots there is room for it.
func TestMemoryWithoutRoots(t *testing.T) {
	for _, x := range inCells {
		h := newHeap(t, x.need)
		a, _ := box(t, h, x.v)
		wantNoBox(t, h, x.v, api.ErrMemory, a)
		wantUnbox(t, h, a, x.v)
		b, e := box(t, h, x.v)
		if e != api.OK {
			t.Fatalf("Box(%s) is %d where nothing is reached", tell(x.v), e)
		}
		wantUnbox(t, h, b, x.v)
		wantNoBox(t, h, ofText("more than all of the heap has room for"), api.ErrMemory, nilWord)
		if got := held(h); len(got) != 0 {
			t.Errorf("behind ErrMemory the heap holds %x; want nothing", words(got))
		}
	}
}

// What is boxed while there is room for it leaves what the roots reach.
func TestMemoryHolds(t *testing.T) {
	h := newHeap(t, 60)
	var all []uint64
	var values []api.Value
	for i := int64(0); ; i++ {
		v := ofInt(1<<50 + i)
		if i%2 == 1 {
			v = ofText(strings.Repeat("y", int(6+i)))
		}
		w, e := box(t, h, v, all...)
		if e == api.ErrMemory {
			break
		}
		all, values = append(all, w), append(values, v)
		for range 3 {
			box(t, h, ofText("unheeded"), all...)
		}
	}
	if len(all) < 10 {
		t.Errorf("only %d values fit", len(all))
	}
	for i, w := range all {
		wantUnbox(t, h, w, values[i])
	}
}

// R3: the roots are not changed, and what lies behind their length is none.
func TestMemoryRootsEnd(t *testing.T) {
	for _, x := range inCells {
		h := newHeap(t, 2+x.need)
		a := put(t, h, number(1))
		b := put(t, h, number(2), a)
		list := []uint64{a, b, nilWord}
		w, e := value.Box(h, x.v, list[:1])
		if e != api.OK {
			t.Fatalf("Box(%s) is %d", tell(x.v), e)
		}
		wantUnbox(t, h, a, ofInt(1))
		wantUnbox(t, h, w, x.v)
		if want := []uint64{a, b, nilWord}; !slices.Equal(list, want) {
			t.Errorf("the roots %x have become %x", want, list)
		}
	}
}

// Nor is it held behind ErrMemory.
func TestMemoryRootsEndBehindError(t *testing.T) {
	h := newHeap(t, 4)
	a := put(t, h, number(1))
	b := put(t, h, number(2), a)
	list := []uint64{a, b, nilWord}
	if w, e := value.Box(h, ofText("123456789"), list[:1]); w != 0 || e != api.ErrMemory {
		t.Fatalf("Box is %x, %d; want ErrMemory", w, e)
	}
	if got := words(held(h)); !slices.Equal(got, []uint64{a}) {
		t.Errorf("the heap holds %x; want %x alone", got, a)
	}
	if want := []uint64{a, b, nilWord}; !slices.Equal(list, want) {
		t.Errorf("the roots %x have become %x", want, list)
	}
}

// The roots are not kept: what they were has no say later on.
func TestMemoryRootsAreNotKept(t *testing.T) {
	h := newHeap(t, 4)
	a := put(t, h, number(1))
	roots := []uint64{a}
	w, _ := box(t, h, ofInt(1<<60), roots...)
	wantNoBox(t, h, ofInt(1<<61), api.ErrMemory, a, w)
	roots[0] = nilWord
	x, e := box(t, h, ofText("12345678"), w)
	if e != api.OK {
		t.Fatalf("Box is %d", e)
	}
	wantUnbox(t, h, w, ofInt(1<<60))
	wantUnbox(t, h, x, ofText("12345678"))
}
