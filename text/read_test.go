package text_test

import (
	"cmp"
	"slices"
	"strings"
	"testing"

	"casket/api"
	"casket/text"
)

// Promise 8.2: Of, Len, Byte and Compare.

// far are indexes that no string has, whatever their lowest bits are.
var far = []int64{leastIndex, leastIndex + 1, -1 << 32, -1<<32 + 1, -256, -255, -2, -1, 1 << 31, 1 << 32, 1<<32 + 1, 1 << 48, 1 << 62, mostIndex - 1, mostIndex}

func TestOfAndLen(t *testing.T) {
	for _, s := range slices.Concat(shorts, longs) {
		h := newHeap(t, 20)
		for _, w := range both(t, h, s) {
			wantOf(t, h, w, s)
			wantLen(t, h, w, len(s))
		}
	}
}

// Strings of each length up to many, around those of a word and of a unit.
func TestOfEachLength(t *testing.T) {
	all := strings.Repeat("\x00\x01ab\x7f\x80\xfe\xff", 20)
	for n := range len(all) {
		h := newHeap(t, 30)
		for _, w := range both(t, h, all[:n]) {
			wantOf(t, h, w, all[:n])
			wantLen(t, h, w, n)
		}
	}
}

func TestByte(t *testing.T) {
	for _, s := range slices.Concat(shorts, longs) {
		h := newHeap(t, 20)
		for _, w := range both(t, h, s) {
			for i := range len(s) {
				wantByte(t, h, w, int64(i), s[i])
			}
			for _, i := range append(slices.Clone(far), int64(len(s)), int64(len(s))+1, int64(len(s))+8) {
				wantNoByte(t, h, w, i, api.ErrIndex)
			}
		}
	}
}

// Each byte that there is, in a word and in a cell.
func TestByteOfEachByte(t *testing.T) {
	h := newHeap(t, 40)
	var all []byte
	for c := range 256 {
		all = append(all, byte(c))
		wantByte(t, h, shortWord(string([]byte{'x', byte(c)})), 1, byte(c))
	}
	w := put(t, h, textCell(string(all)))
	for c := range 256 {
		wantByte(t, h, w, int64(c), byte(c))
	}
}

// Each pair of strings, each in its word and in a cell: as Go compares them.
func TestCompare(t *testing.T) {
	all := slices.Concat(shorts, longs)
	h := newHeap(t, 400)
	var placed [][]uint64
	var roots []uint64
	for _, s := range all {
		ws := both(t, h, s, roots...)
		placed, roots = append(placed, ws), append(roots, ws...)
	}
	for i, x := range all {
		for j, y := range all {
			want := 0
			if x < y {
				want = -1
			} else if x > y {
				want = 1
			}
			for _, a := range placed[i] {
				for _, b := range placed[j] {
					wantCompare(t, h, a, b, want)
				}
			}
		}
	}
}

// Orders that are written out: bytes count as numbers from 0 to 255, and what begins another goes ahead of it.
func TestCompareInOrder(t *testing.T) {
	rising := []string{
		"", "\x00", "\x00\x00", "\x00\x00\x00\x00\x00\x00", "\x00a", "\x01", "A", "B", "Z", "a", "a\x00", "aa", "aaaaa", "aaaaaa", "ab", "abcde", "abcdef", "abcdefg", "abcdeg",
		"abcdf", "b", "\x7f", "\x80", "\x80\x00", "\x80\xff", "\xc3\xa4", "\xfe\xff\xff\xff\xff\xff", "\xff", "\xff\x00", "\xff\xff\xff\xff\xff", "\xff\xff\xff\xff\xff\x00", "\xff\xff\xff\xff\xff\xff",
	}
	h := newHeap(t, 200)
	var placed [][]uint64
	var roots []uint64
	for _, s := range rising {
		ws := both(t, h, s, roots...)
		placed, roots = append(placed, ws), append(roots, ws...)
	}
	for i := range rising {
		for j := range rising {
			for _, a := range placed[i] {
				for _, b := range placed[j] {
					wantCompare(t, h, a, b, cmp.Compare(i, j))
				}
			}
		}
	}
}

// Strings of many bytes that differ in one place, wherever it stands, or in length.
func TestCompareOfLongStrings(t *testing.T) {
	base := strings.Repeat("ab\x80\xfe", 10)
	h := newHeap(t, 30)
	a := put(t, h, textCell(base))
	wantCompare(t, h, a, a, 0)
	wantCompare(t, h, a, put(t, h, textCell(base), a), 0)
	for i := range len(base) {
		greater := base[:i] + string([]byte{base[i] + 1}) + base[i+1:]
		less := base[:i] + string([]byte{base[i] - 1}) + strings.Repeat("\xff", len(base))
		for want, s := range map[int]string{-1: greater, 1: less} {
			b := put(t, h, textCell(s), a)
			wantCompare(t, h, a, b, want)
			wantCompare(t, h, b, a, -want)
		}
		part := put(t, h, textCell(base[:i]), a)
		wantCompare(t, h, a, part, 1)
		wantCompare(t, h, part, a, -1)
	}
}

// Each pair of bytes, alone and behind others.
func TestCompareOfEachByte(t *testing.T) {
	h := newHeap(t, 0)
	for c := range 256 {
		for d := range 256 {
			want := cmp.Compare(c, d)
			wantCompare(t, h, shortWord(string([]byte{byte(c)})), shortWord(string([]byte{byte(d)})), want)
			wantCompare(t, h, shortWord(string([]byte{'x', byte(c), 1})), shortWord(string([]byte{'x', byte(d), 1})), want)
		}
	}
}

// What only looks changes nothing, neither in the heap nor in what is answered a second time.
func TestReadingChangesNothing(t *testing.T) {
	s := newSample(t, 200)
	for range 2 {
		for _, a := range s.goods(t) {
			for _, b := range s.goods(t) {
				x, _ := text.Of(s.h, a)
				y, _ := text.Of(s.h, b)
				wantCompare(t, s.h, a, b, cmp.Compare(x, y))
				wantLen(t, s.h, a, len(x))
				if len(y) > 0 {
					wantByte(t, s.h, b, 0, y[0])
				} else {
					wantNoByte(t, s.h, b, 0, api.ErrIndex)
				}
			}
		}
		s.wantAll(t)
	}
}

// What was answered stays, whatever becomes of the cell (R3).
func TestOfOutlivesItsCell(t *testing.T) {
	h := newHeap(t, 5)
	s, e := text.Of(h, put(t, h, textCell("hello! and more")))
	h.Collect(nil)
	for range 5 {
		put(t, h, textCell(strings.Repeat("x", 30)))
	}
	if s != "hello! and more" || e != api.OK {
		t.Errorf("what Of answered has become %q, %d", s, e)
	}
}
