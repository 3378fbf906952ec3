package ops_test

import (
	"slices"
	"testing"

	"casket/api"
	"casket/ops"
)

// Promises 10.1 and 10.4: which error is told where several apply; names, and how many arguments.

func TestArity(t *testing.T) {
	for name, want := range arities {
		if n, ok := ops.Arity(name); n != want || !ok {
			t.Errorf("Arity(%q) is %d, %t; want %d", name, n, ok, want)
		}
	}
	for _, name := range slices.Concat(noBuiltins, unaries, binaries) {
		if n, ok := ops.Arity(name); n != 0 || ok {
			t.Errorf("Arity(%q) is %d, %t", name, n, ok)
		}
	}
	if len(arities) != 19 {
		t.Errorf("the tests know %d built-in functions", len(arities))
	}
}

// The sample is of every sort: a test that leaves one out would not be told.
func TestSampleIsOfEachSort(t *testing.T) {
	s := newSample(t)
	counts, kinds, views := map[api.Errno]int{}, map[int]int{}, map[int]int{}
	for _, x := range s.bads() {
		counts[x.e]++
	}
	for _, c := range s.cells {
		if c.View {
			views[c.Kind]++
		} else {
			kinds[c.Kind]++
		}
	}
	if len(counts) != 2 || len(kinds) != 7 || len(views) != 4 {
		t.Errorf("the bads are %v, cells %v, views %v", counts, kinds, views)
	}
	seen := map[int]bool{}
	for _, w := range s.ofEachKind(t) {
		v, _ := valueIn(s.cells, w)
		seen[v.Kind] = true
	}
	if len(seen) != 10 {
		t.Errorf("there are values of %d kinds", len(seen))
	}
}

// A name that is none is told ahead of all else, with however many arguments.
func TestNoBuiltin(t *testing.T) {
	s := newSample(t)
	for _, name := range slices.Concat(noBuiltins, unaries, binaries) {
		for n := range 6 {
			wantBuiltin(t, s.h, name, slices.Repeat([]uint64{smallWord(1)}, n), api.ErrName)
			wantBuiltin(t, s.h, name, slices.Repeat([]uint64{strays[0]}, n), api.ErrName)
			wantBuiltin(t, s.h, name, slices.Repeat([]uint64{s.gone}, n), api.ErrName)
		}
	}
}

// Too few, and too many, of every built-in function: ahead of what is wrong with them.
func TestCounts(t *testing.T) {
	s := newSample(t)
	for _, name := range names() {
		for _, n := range []int{0, 1, 2, 3, 4, 5, 6, 16, 17, 255, 256, 257, 1 << 16} {
			if n == arities[name] {
				continue
			}
			wantBuiltin(t, s.h, name, slices.Repeat([]uint64{smallWord(1)}, n), api.ErrCount)
			if n < 20 {
				for _, x := range s.bads() {
					wantBuiltin(t, s.h, name, slices.Repeat([]uint64{x.w}, n), api.ErrCount)
				}
				for _, w := range s.ofEachKind(t) {
					wantBuiltin(t, s.h, name, slices.Repeat([]uint64{w}, n), api.ErrCount)
				}
			}
		}
		wantBuiltin(t, s.h, name, nil, api.ErrCount)
		wantBuiltin(t, s.h, name, []uint64{}, api.ErrCount)
	}
}

// What is no value is told ahead of what is of the wrong kind, whatever stands beside it, on either side.
func TestWrongWordOfBinary(t *testing.T) {
	s := newSample(t)
	for _, op := range binaries {
		for _, x := range s.bads() {
			for _, w := range s.ofEachKind(t) {
				wantBinary(t, s.h, op, x.w, w, x.e)
				wantBinary(t, s.h, op, w, x.w, x.e)
			}
		}
	}
}

// Of two that are no values, what is wrong with the first one.
func TestWrongWordsOfBinary(t *testing.T) {
	s := newSample(t)
	for _, op := range binaries {
		for _, x := range s.bads() {
			for _, y := range []uint64{x.w, strays[0], nobodys[0], s.gone} {
				wantBinary(t, s.h, op, x.w, y, x.e)
			}
		}
	}
}

// Each built-in function: one that is no value, as the first, the second and each later argument, beside each kind.
func TestWrongWordOfBuiltin(t *testing.T) {
	s := newSample(t)
	for _, name := range names() {
		for _, w := range append(s.ofEachKind(t), smallWord(0), shortWord("u8")) {
			for place := range arities[name] {
				for _, x := range s.bads() {
					list := slices.Repeat([]uint64{w}, arities[name])
					list[place] = x.w
					wantBuiltin(t, s.h, name, list, x.e)
				}
			}
		}
	}
}

// Several that are no values: what is wrong with the first one of them.
func TestWrongWordsOfBuiltin(t *testing.T) {
	s := newSample(t)
	for _, name := range names() {
		n := arities[name]
		for place := range n {
			for _, x := range s.bads() {
				for _, y := range []uint64{strays[0], nobodys[0], s.gone} {
					list := slices.Concat(slices.Repeat([]uint64{nilWord}, place), []uint64{x.w}, slices.Repeat([]uint64{y}, n-place-1))
					wantBuiltin(t, s.h, name, list, x.e)
				}
			}
		}
	}
}

// rightful are arguments that each built-in function takes; the buffer is handed in.
func rightful(b uint64) map[string][]uint64 {
	zero := smallWord(0)
	return map[string][]uint64{
		"int": {zero}, "float": {zero}, "text": {zero}, "num": {shortWord("1")}, "len": {shortWord("ab")}, "sub": {shortWord("ab"), zero, smallWord(1)}, "byte": {shortWord("ab"), zero}, "chr": {zero}, "bits": {doubleWord(0)}, "frombits": {zero},
		"f64": {zero}, "f32": {zero}, "i16": {zero}, "u8": {zero}, "row": {zero}, "view": {b, shortWord("u8"), zero, zero}, "load": {b, zero}, "store": {b, zero, zero}, "kind": {zero},
	}
}

// Of arguments that are taken, one at a time is of each kind, or no value.
func TestOneWrongArgument(t *testing.T) {
	s := newSample(t)
	b := s.find(t, buffer(api.U8, counted(16)...))
	for _, name := range names() {
		for place := range arities[name] {
			for _, x := range s.bads() {
				list := slices.Clone(rightful(b)[name])
				list[place] = x.w
				wantBuiltin(t, s.h, name, list, x.e)
			}
		}
	}
	for _, name := range names() {
		for place := range arities[name] {
			for _, w := range s.all() {
				list := slices.Clone(rightful(b)[name])
				list[place] = w
				doBuiltin(t, s.h, name, list, s.keep...)
			}
		}
	}
}

// A cell of another heap is none of this one (R4).
func TestWrongHeap(t *testing.T) {
	one, other := newHeap(t, 20), newHeap(t, 20)
	for _, c := range []api.Cell{number(1 << 60), textCell("hello!"), buffer(api.U8, 1), row(nilWord)} {
		w := put(t, one, c, words(held(one))...)
		for _, op := range unaries {
			wantUnary(t, other, op, w, api.ErrHandle)
		}
		for _, op := range binaries {
			wantBinary(t, other, op, w, w, api.ErrHandle)
			wantBinary(t, other, op, smallWord(1), w, api.ErrHandle)
		}
		for _, name := range names() {
			wantBuiltin(t, other, name, slices.Repeat([]uint64{w}, arities[name]), api.ErrHandle)
		}
		wantTold(t, other, w, "", api.ErrHandle)
	}
}

// What was swept is told of as what was never there.
func TestWrongBehindCollect(t *testing.T) {
	h := newHeap(t, 20)
	w := wantBinary(t, h, "+", shortWord("abc"), shortWord("def"), isText("abcdef"))
	wantTold(t, h, w, "abcdef", api.OK)
	h.Collect(nil)
	wantTold(t, h, w, "", api.ErrHandle)
	wantBinary(t, h, "+", w, shortWord("a"), api.ErrHandle, w)
	wantBinary(t, h, "==", nilWord, w, api.ErrHandle, w)
	wantBuiltin(t, h, "len", args(w), api.ErrHandle, w)
	wantUnary(t, h, "not", w, api.ErrHandle, w)
}

// What is refused has swept nothing (R2), though the heap is full of what nothing reaches; nor has what makes no cell.
func TestRefusalsSweepNothing(t *testing.T) {
	d := newDesk(t, 20)
	big, hello, b := d.put(t, number(1<<62)), d.put(t, textCell("hello!")), d.put(t, buffer(api.U8, counted(8)...))
	fill(t, d.h)
	ahead := held(d.h)
	wantUnary(t, d.h, "-", hello, api.ErrType)
	wantUnary(t, d.h, "-", doubleWord(1), isDouble(-1))
	wantUnary(t, d.h, "?", big, api.ErrArg)
	wantBinary(t, d.h, "+", big, big, api.ErrOverflow)
	wantBinary(t, d.h, "-", big, big, isInt(0))
	wantBinary(t, d.h, "*", big, big, api.ErrOverflow)
	wantBinary(t, d.h, "/", big, big, isDouble(1))
	wantBinary(t, d.h, "//", big, smallWord(0), api.ErrDivZero)
	wantBinary(t, d.h, "//", big, big, isInt(1))
	wantBinary(t, d.h, "%", big, smallWord(0), api.ErrDivZero)
	wantBinary(t, d.h, "<<", big, smallWord(1), api.ErrOverflow)
	wantBinary(t, d.h, ">>", big, smallWord(64), api.ErrShift)
	wantBinary(t, d.h, ">>", big, smallWord(62), isInt(1))
	wantBinary(t, d.h, "+", hello, big, api.ErrType)
	wantBinary(t, d.h, "<", hello, hello, isTruth(false))
	wantBinary(t, d.h, "==", b, b, isTruth(true))
	for name, list := range map[string][]uint64{"int": {hello}, "text": {b}, "num": {hello}, "len": {big}, "sub": {hello, smallWord(0), smallWord(7)}, "byte": {hello, big}, "chr": {big}, "bits": {big}, "frombits": {b}, "f64": {smallWord(-1)}, "row": {smallWord(20)}, "u8": {big}, "view": {b, shortWord("f64"), smallWord(1), smallWord(1)}, "load": {b, smallWord(8)}, "store": {b, smallWord(0), smallWord(256)}} {
		if w, e := doBuiltin(t, d.h, name, list); w != 0 || e == api.OK {
			t.Errorf("%s is %x, %d", name, w, e)
		}
	}
	for name, list := range map[string][]uint64{"int": {big}, "float": {big}, "text": {hello}, "len": {hello}, "byte": {hello, smallWord(0)}, "sub": {hello, smallWord(0), smallWord(5)}, "frombits": {big}, "load": {b, smallWord(0)}, "kind": {b}} {
		if _, e := doBuiltin(t, d.h, name, list); e != api.OK {
			t.Errorf("%s is %d", name, e)
		}
	}
	wantSame(t, d.h, "all of it", ahead)
	if needs(ahead) != d.h.Room() {
		t.Errorf("the heap holds %d units of %d", needs(ahead), d.h.Room())
	}
}
