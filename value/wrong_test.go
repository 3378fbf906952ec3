package value_test

import (
	"math"
	"slices"
	"strings"
	"testing"

	"casket/api"
)

// Promises 7.1 and 7.2: ErrArg, ErrHandle and ErrLong, each wrong in a single way; which is told where several apply; and that nothing has changed.

// noKinds are those that no value has: the ends, and numbers whose lowest bits are a kind.
var noKinds = []int{-1, -2, -9, 10, 11, 99, 255, 256, 256 + api.Int, 1 << 16, 1<<16 + api.Text, 1 << 31, 1 << 32, 1<<32 + api.Row, -1 << 32, math.MinInt, math.MaxInt}

func TestWrongKinds(t *testing.T) {
	s := newSample(t, 200)
	for _, kind := range noKinds {
		wantNoBox(t, s.h, api.Value{Kind: kind}, api.ErrArg)
		wantNoBox(t, s.h, api.Value{Kind: kind, Int: 1}, api.ErrArg)
		wantNoBox(t, s.h, api.Value{Kind: kind, Bits: 1}, api.ErrArg)
		wantNoBox(t, s.h, api.Value{Kind: kind, Text: "x"}, api.ErrArg)
		for w := range s.cells {
			wantNoBox(t, s.h, ofThing(kind, w), api.ErrArg)
		}
	}
	s.wantAll(t)
}

func TestWrongTruths(t *testing.T) {
	h := newHeap(t, 10)
	for _, i := range []int64{-1, 2, 3, 255, 256, 257, 1 << 16, 1<<16 + 1, 1 << 31, 1 << 32, 1<<32 + 1, -1 << 32, mostSmall, 1 << 48, 1<<48 + 1, math.MinInt64, math.MinInt64 + 1, math.MaxInt64} {
		wantNoBox(t, h, ofBool(i), api.ErrArg)
	}
}

// extras are all that may stand in a field that a kind does not name: each sort of number, in any of its bits.
func extras(s *sample) (ints []int64, bits []uint64, texts []string, refs []uint64) {
	for i := range 64 {
		ints = append(ints, 1<<i)
		bits = append(bits, 1<<i)
		refs = append(refs, 1<<i)
	}
	ints = append(ints, -1, 5, math.MaxInt64)
	bits = append(bits, nilWord, api.Canon, math.MaxUint64)
	refs = append(append(refs, nilWord, s.gone, handleWord(1<<48-1)), words(s.cells)...)
	return ints, bits, append(slices.Clone(longs), shorts[1:]...), refs
}

// rights are values of each kind; those of things have a Ref that is right.
func rights(t *testing.T, s *sample) []api.Value {
	t.Helper()
	all := []api.Value{ofNil(), ofBool(0), ofBool(1), ofInt(0), ofInt(5), ofInt(1 << 60), ofFloat(0), ofFloat(1), ofFloat(api.Canon), ofText(""), ofText("ab"), ofText("hello!")}
	for _, kind := range things {
		all = append(all, ofThing(kind, s.find(t, kind, false)))
		if kind != api.Row {
			all = append(all, ofThing(kind, s.find(t, kind, true)))
		}
	}
	return all
}

// spoilt is v with something in each one of the fields that its kind does not name.
func spoilt(s *sample, v api.Value) []api.Value {
	var all []api.Value
	ints, bits, texts, refs := extras(s)
	if v.Kind != api.Int && v.Kind != api.Bool {
		for _, i := range ints {
			x := v
			x.Int = i
			all = append(all, x)
		}
	}
	if v.Kind != api.Float {
		for _, b := range bits {
			x := v
			x.Bits = b
			all = append(all, x)
		}
	}
	if v.Kind != api.Text {
		for _, b := range texts {
			x := v
			x.Text = b
			all = append(all, x)
		}
	}
	if !slices.Contains(things, v.Kind) {
		for _, w := range refs {
			x := v
			x.Ref = w
			all = append(all, x)
		}
	}
	return all
}

func TestWrongFields(t *testing.T) {
	s := newSample(t, 200)
	for _, v := range rights(t, s) {
		if _, _, e := expected(s.cells, v); e != api.OK {
			t.Fatalf("%s is not right", tell(v))
		}
		for _, x := range spoilt(s, v) {
			wantNoBox(t, s.h, x, api.ErrArg, words(s.cells)...)
		}
	}
	s.wantAll(t)
}

// A Ref is a word with the handle of a cell of this heap, of that Kind.
func TestWrongRefs(t *testing.T) {
	s := newSample(t, 200)
	bad := slices.Concat(strays, nobodys, doubles, []uint64{s.gone, nilWord, falseWord, trueWord, smallWord(0), smallWord(1), shortWord(""), shortWord("ab")})
	for w := range s.cells { // the number of a handle is no word with it
		bad = append(bad, w&(1<<48-1), w&(1<<48-1)|0xfff9<<48, w&^(1<<63), w|1<<50)
	}
	for _, kind := range things {
		for _, w := range bad {
			wantNoBox(t, s.h, ofThing(kind, w), api.ErrHandle, words(s.cells)...)
		}
	}
	s.wantAll(t)
}

// Of each cell just its own Kind will do; of a view its elements'.
func TestWrongKindsOfRefs(t *testing.T) {
	s := newSample(t, 200)
	for w, c := range s.cells {
		for _, kind := range things {
			if kind == c.Kind {
				wantBox(t, s.h, ofThing(kind, w), w)
			} else {
				wantNoBox(t, s.h, ofThing(kind, w), api.ErrHandle)
			}
		}
	}
	s.wantAll(t)
}

// A cell of another heap is none of this one.
func TestWrongHeap(t *testing.T) {
	s, other := newSample(t, 200), newHeap(t, 100)
	for w, c := range s.cells {
		if slices.Contains(things, c.Kind) {
			wantNoBox(t, other, ofThing(c.Kind, w), api.ErrHandle)
		}
	}
}

func TestWrongLengths(t *testing.T) {
	h := newHeap(t, api.MaxUnits)
	r := put(t, h, row())
	most := strings.Repeat("x", 1<<23)
	wantNoBox(t, h, ofText(most+"x"), api.ErrLong)
	wantNoBox(t, h, ofText(most+most), api.ErrLong)
	if _, e := h.Get(r); e != api.OK {
		t.Errorf("ErrLong has swept: %d", e)
	}
	wantNoBox(t, h, ofText(most), api.ErrMemory, r)
	wantCell(t, h, ofText(most[:1<<23-16]), text(most[:1<<23-16]), r)
}

// ErrArg stands first, then ErrHandle and ErrLong; ErrMemory last.
func TestWrongInSeveralWays(t *testing.T) {
	h := newHeap(t, 2)
	i := put(t, h, number(1))
	long := strings.Repeat("x", 1<<23+1)
	wantNoBox(t, h, api.Value{Kind: api.Row, Ref: 0, Int: 1}, api.ErrArg)
	wantNoBox(t, h, api.Value{Kind: api.U8, Ref: i, Bits: 1}, api.ErrArg)
	wantNoBox(t, h, api.Value{Kind: api.F32, Ref: strays[0], Text: "x"}, api.ErrArg)
	wantNoBox(t, h, api.Value{Kind: api.F32, Ref: nobodys[0], Text: long}, api.ErrArg)
	wantNoBox(t, h, api.Value{Kind: api.Text, Text: long, Int: 1}, api.ErrArg)
	wantNoBox(t, h, api.Value{Kind: api.Text, Text: long, Ref: i}, api.ErrArg)
	wantNoBox(t, h, api.Value{Kind: api.Text, Text: long, Bits: 1}, api.ErrArg)
	wantNoBox(t, h, api.Value{Kind: api.Bool, Int: 1, Text: long}, api.ErrArg)
	wantNoBox(t, h, api.Value{Kind: api.Int, Int: 1 << 60, Bits: 1}, api.ErrArg)
	wantNoBox(t, h, api.Value{Kind: api.Text, Text: "hello!", Ref: nobodys[0]}, api.ErrArg)
	wantNoBox(t, h, api.Value{Kind: 10, Text: long}, api.ErrArg)
	wantNoBox(t, h, ofText(long), api.ErrLong)
	wantNoBox(t, h, ofThing(api.Row, i), api.ErrHandle)
	if _, e := h.Get(i); e != api.OK {
		t.Errorf("a wrong value has swept: %d", e)
	}
	wantNoBox(t, h, ofText("more than two units"), api.ErrMemory)
	wantNoUnbox(t, h, i, api.ErrHandle)
}
