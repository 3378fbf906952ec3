package text_test

import (
	"slices"
	"strings"
	"testing"

	"casket/api"
	"casket/text"
)

// Promise 8.3: Concat and Sub. Memory is in memory_test.go; concat and sub look at what is held behind each call.

// Each pair of strings, each in its word and in a cell.
func TestConcat(t *testing.T) {
	for _, x := range slices.Concat(shorts, longs) {
		for _, y := range slices.Concat(shorts, longs) {
			h := newHeap(t, 50)
			as := both(t, h, x)
			bs := both(t, h, y, as...)
			for _, a := range as {
				for _, b := range bs {
					wantConcat(t, h, a, b, x+y, slices.Concat(as, bs)...)
				}
			}
		}
	}
}

// Lengths around five bytes, the most that a word holds, whatever lengths they are put together from.
func TestConcatToFiveAndSix(t *testing.T) {
	all := "\x00bcde\xff"
	for n := range len(all) + 1 {
		for i := range n + 1 {
			h := newHeap(t, 10)
			as := both(t, h, all[:i])
			bs := both(t, h, all[i:n], as...)
			for _, a := range as {
				for _, b := range bs {
					wantConcat(t, h, a, b, all[:n], slices.Concat(as, bs)...)
				}
			}
		}
	}
}

// A string beside the empty one is a new cell nevertheless, if it is long; and the word, if it is short and stood in a cell.
func TestConcatWithNothing(t *testing.T) {
	for _, s := range slices.Concat(shorts, longs) {
		h := newHeap(t, 50)
		ws := both(t, h, s)
		nothings := both(t, h, "", ws...)
		keep := slices.Concat(ws, nothings)
		for _, w := range ws {
			for _, nothing := range nothings {
				ahead, behind := wantConcat(t, h, nothing, w, s, keep...), wantConcat(t, h, w, nothing, s, keep...)
				if len(s) > 5 && (ahead == w || behind == w) {
					t.Errorf("Concat of %s and nothing is no new cell", tell(s))
				}
			}
		}
	}
}

func TestConcatWithItself(t *testing.T) {
	for _, s := range slices.Concat(shorts, longs) {
		h := newHeap(t, 50)
		ws := both(t, h, s)
		for _, w := range ws {
			wantConcat(t, h, w, w, s+s, ws...)
		}
	}
}

// Strings that grow by what they are.
func TestConcatGrows(t *testing.T) {
	h := newHeap(t, 1000)
	w, s := shortWord("\x00\xff"), "\x00\xff"
	for range 10 {
		w, s = wantConcat(t, h, w, w, s+s), s+s
		wantLen(t, h, w, len(s))
	}
}

// The longest strings: MaxBytes need more units than a heap has; one byte more on each side is refused ahead of that.
func TestConcatOfTheLongest(t *testing.T) {
	h := newHeap(t, api.MaxUnits)
	half := strings.Repeat("x", api.MaxBytes/2)
	loose := put(t, h, number(1))
	w := put(t, h, textCell(half+"x"), loose)
	wantNoConcat(t, h, w, w, api.ErrLong)
	if _, e := h.Get(loose); e != api.OK {
		t.Errorf("ErrLong has swept: %d", e)
	}
	h.Collect(nil)
	w = put(t, h, textCell(half))
	loose = put(t, h, number(1), w)
	wantNoConcat(t, h, w, w, api.ErrMemory)
	if _, e := h.Get(loose); e != api.ErrHandle {
		t.Errorf("ErrMemory has not swept: %d", e)
	}
	wantLen(t, h, w, len(half))
}

// As long as a heap has room for, beside what it is made of: 2/3 of the units are the new cell's.
func TestConcatOfAlmostTheLongest(t *testing.T) {
	h := newHeap(t, api.MaxUnits)
	third := strings.Repeat("third...", (api.MaxUnits-2)/3)
	w := put(t, h, textCell(third))
	x, e := text.Concat(h, w, w, nil)
	if e != api.OK {
		t.Fatalf("Concat is %d", e)
	}
	if s, e := text.Of(h, x); s != third+third || e != api.OK {
		t.Errorf("Of Concat has %d bytes, %d", len(s), e)
	}
	h.Collect([]uint64{x})
	s := third + third
	wantByte(t, h, x, int64(len(s))-1, '.')
	wantNoByte(t, h, x, int64(len(s)), api.ErrIndex)
	wantSub(t, h, x, int64(len(s))-3, int64(len(s)), "...", x)
}

// Sub of each pair of places, those just outside too.
func TestSub(t *testing.T) {
	for _, s := range slices.Concat(shorts, longs[:8]) {
		h := newHeap(t, 60)
		ws := both(t, h, s)
		n := int64(len(s))
		for _, w := range ws {
			for i := int64(-2); i <= n+2; i++ {
				for j := int64(-2); j <= n+2; j++ {
					if i < 0 || j < i || n < j {
						wantNoSub(t, h, w, i, j, api.ErrIndex, ws...)
					} else {
						wantSub(t, h, w, i, j, s[i:j], ws...)
					}
				}
			}
		}
	}
}

// Places far off, at both ends of 64 bits, on each side.
func TestSubFarOff(t *testing.T) {
	h := newHeap(t, 20)
	for _, s := range []string{"", "ab", "hello", "hello!", "many bytes of text"} {
		n := int64(len(s))
		for _, w := range both(t, h, s) {
			for _, i := range far {
				for _, j := range append(slices.Clone(far), 0, 1, n-1, n, n+1) {
					wantNoSub(t, h, w, i, j, api.ErrIndex, w)
					wantNoSub(t, h, w, j, i, api.ErrIndex, w)
				}
			}
		}
	}
}

// i equal to j is the empty string, up to the end; all of it is a new cell, if it is long.
func TestSubOfNothingAndAll(t *testing.T) {
	for _, s := range slices.Concat(shorts, longs) {
		h := newHeap(t, 60)
		ws := both(t, h, s)
		n := int64(len(s))
		for _, w := range ws {
			for i := range n + 1 {
				wantSub(t, h, w, i, i, "", ws...)
			}
			wantNoSub(t, h, w, n+1, n+1, api.ErrIndex, ws...)
			wantNoSub(t, h, w, -1, -1, api.ErrIndex, ws...)
			if x := wantSub(t, h, w, 0, n, s, ws...); len(s) > 5 && x == w {
				t.Errorf("Sub of all of %s is no new cell", tell(s))
			}
		}
	}
}

// Parts of five and six bytes of a long string, wherever they stand.
func TestSubOfFiveAndSix(t *testing.T) {
	s := strings.Repeat("\x00\xffabc\x80d", 6)
	h := newHeap(t, 20)
	w := put(t, h, textCell(s))
	for i := range int64(len(s)) - 6 {
		wantSub(t, h, w, i, i+5, s[i:i+5])
		wantSub(t, h, w, i, i+6, s[i:i+6])
	}
}

// What is cut off and put together is not changed with what it came from: there is nothing to write to a string, but its cell may go.
func TestPartsOutliveTheWhole(t *testing.T) {
	h := newHeap(t, 60)
	whole := put(t, h, textCell("a string of many bytes"))
	part := wantSub(t, h, whole, 2, 12, "string of ")
	twice := wantConcat(t, h, part, part, "string of string of ", part)
	h.Collect([]uint64{twice})
	wantNoByte(t, h, whole, 0, api.ErrHandle)
	wantNoByte(t, h, part, 0, api.ErrHandle)
	put(t, h, textCell(strings.Repeat("y", 100)), twice)
	wantOf(t, h, twice, "string of string of ")
}
