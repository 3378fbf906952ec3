package value_test

import (
	"fmt"
	"maps"
	"math"
	"reflect"
	"slices"
	"strings"
	"testing"

	"casket/api"
	"casket/heap"
	"casket/value"
)

const (
	leastSmall = -1 << 47
	mostSmall  = 1<<47 - 1

	nilWord   = 0xfff8000000000000
	falseWord = 0xfff8000000000001
	trueWord  = 0xfff8000000000002
)

// smallWord is written out here, and not asked of package word: the two are held against each other.
func smallWord(i int64) uint64 { return 0xfff9<<48 | uint64(i)&(1<<48-1) }

func shortWord(s string) uint64 {
	w := 0xfffa<<48 | uint64(len(s))<<40
	for i := range len(s) {
		w |= uint64(s[i]) << (8 * i)
	}
	return w
}

func handleWord(n uint64) uint64 { return 0xfffb<<48 | n }

// things are the kinds that have a Ref.
var things = []int{api.F64, api.F32, api.I16, api.U8, api.Row}

// buffers are the kinds of buffers and views.
var buffers = things[:4]

// widths are those of elements.
var widths = map[int]int{api.F64: 8, api.F32: 4, api.I16: 2, api.U8: 1}

// strays are words of no value, of each sort that there is.
var strays = []uint64{
	0x7ff8000000000001, 0x7ff0000000000001, 0x7ff4000000000000, 0x7fffffffffffffff, 0x7ff9000000000005, 0x7ffb000000000000,
	0xfff0000000000001, 0xfff7ffffffffffff, 0xfff8000000000003, 0xfff8ffffffffffff, 0xfff8000100000000, 0xfff8800000000000,
	0xfffa060000000000, 0xfffaff0000000000, 0xfffa010000006261, 0xfffa000000000001, 0xfffa048000000000,
	0xfffc000000000000, 0xfffc000000000005, 0xfffd000000000000, 0xfffe000000000000, 0xffff000000000000, 0xffffffffffffffff,
}

// nobodys are words with handles that no small heap has given.
var nobodys = []uint64{handleWord(1 << 20), handleWord(1 << 31), handleWord(1 << 32), handleWord(1<<48 - 1)}

// smalls are whole numbers that words of their own hold.
var smalls = []int64{0, 1, -1, 2, 5, 255, 256, 1 << 31, -1 << 31, 1<<32 - 1, 1 << 32, 1 << 46, leastSmall, leastSmall + 1, mostSmall - 1, mostSmall}

// greats are those that need a cell.
var greats = []int64{
	leastSmall - 1, mostSmall + 1, leastSmall - 2, mostSmall + 2, 1<<48 - 1, 1 << 48, 1<<48 + 5, -1 << 48, 1 << 52, 1 << 53, -1 << 55, 1 << 62,
	math.MinInt64, math.MinInt64 + 1, math.MaxInt64 - 1, math.MaxInt64, -7 << 48, 0x0102030405060708,
}

// doubles are patterns that are no NaN, and Canon.
var doubles = []uint64{
	0, 1, 5, 1 << 63, 1<<63 | 1, 0x000fffffffffffff, 0x0010000000000000, 0x3ff0000000000000, 0xbff0000000000000, 0x4014000000000000,
	0x7fefffffffffffff, 0xffefffffffffffff, 0x7ff0000000000000, 0xfff0000000000000, 0x0102030405060708, api.Canon,
}

// otherNaNs have every kind of payload: signalling and quiet ones, of both signs, and all tags.
var otherNaNs = append([]uint64{nilWord, falseWord, trueWord, smallWord(0), smallWord(5), smallWord(-1), shortWord(""), shortWord("ab"), handleWord(0), handleWord(1), handleWord(1<<48 - 1)}, strays...)

// shorts are strings that words of their own hold.
var shorts = []string{"", "a", "\x00", "\xff", "ab", "a\x00", "\x00a", "abc", "abcd", "\x00\x00\x00\x00", "hello", "\x00\x00\x00\x00\x00", "\xff\xfe\xfd\xfc\xfb", "äö\x80"}

// longs are those that need a cell.
var longs = []string{
	"hello!", "\x00\x00\x00\x00\x00\x00", "\xff\xff\xff\xff\xff\xff", "abcdefg", "abcdefgh", "abcdefghi", "äöü\x80\xc3", strings.Repeat("\x00", 16), strings.Repeat("x", 17),
	strings.Repeat("\xfb\xff", 500), strings.Repeat("many bytes ", 300) + ".",
}

func ofNil() api.Value                       { return api.Value{Kind: api.Nil} }
func ofBool(i int64) api.Value               { return api.Value{Kind: api.Bool, Int: i} }
func ofInt(i int64) api.Value                { return api.Value{Kind: api.Int, Int: i} }
func ofFloat(bits uint64) api.Value          { return api.Value{Kind: api.Float, Bits: bits} }
func ofText(s string) api.Value              { return api.Value{Kind: api.Text, Text: s} }
func ofThing(kind int, ref uint64) api.Value { return api.Value{Kind: kind, Ref: ref} }
func number(i int64) api.Cell                { return api.Cell{Kind: api.Int, Int: i} }
func text(s string) api.Cell                 { return api.Cell{Kind: api.Text, Text: s} }
func buffer(kind int, b ...byte) api.Cell    { return api.Cell{Kind: kind, Bytes: b} }
func row(words ...uint64) api.Cell           { return api.Cell{Kind: api.Row, Words: words} }
func view(kind int, base uint64, from, n int) api.Cell {
	return api.Cell{Kind: kind, View: true, Base: base, From: from, Len: n}
}

func newHeap(t *testing.T, units int) *heap.Heap {
	t.Helper()
	h, e := heap.New(units)
	if h == nil || e != api.OK {
		t.Fatalf("heap.New(%d) is %v, %d", units, h, e)
	}
	return h
}

func put(t *testing.T, h *heap.Heap, c api.Cell, roots ...uint64) uint64 {
	t.Helper()
	w, e := h.Put(c, roots)
	if e != api.OK {
		t.Fatalf("Put of a cell of the kind %d is %d", c.Kind, e)
	}
	return w
}

// tell shortens a value that has too much to be read.
func tell(v api.Value) string {
	if len(v.Text) > 40 {
		return fmt.Sprintf("{a value of the kind %d with %d bytes}", v.Kind, len(v.Text))
	}
	return fmt.Sprintf("{Kind %d, Int %d, Bits %x, Text %q, Ref %x}", v.Kind, v.Int, v.Bits, v.Text, v.Ref)
}

// get is a cell of a heap, with nil for each empty list.
func get(h *heap.Heap, w uint64) (api.Cell, api.Errno) {
	c, e := h.Get(w)
	if len(c.Bytes) == 0 {
		c.Bytes = nil
	}
	if len(c.Words) == 0 {
		c.Words = nil
	}
	return c, e
}

// held are all cells of a heap, by word.
func held(h *heap.Heap) map[uint64]api.Cell {
	all := map[uint64]api.Cell{}
	for w := range h.Cells() {
		all[w], _ = get(h, w)
	}
	return all
}

// reached are those of all that are reached from words.
func reached(all map[uint64]api.Cell, words ...uint64) map[uint64]api.Cell {
	found := map[uint64]api.Cell{}
	for len(words) > 0 {
		w := words[0]
		words = words[1:]
		c, there := all[w]
		if _, already := found[w]; there && !already {
			found[w] = c
			words = append(append(slices.Clone(words), c.Words...), c.Base)
		}
	}
	return found
}

func needs(cells map[uint64]api.Cell) int {
	sum := 0
	for _, c := range cells {
		sum += heap.Need(c)
	}
	return sum
}

// rightFields says what 7.1 says of a value by itself: the ways of having just what its kind names.
func rightFields(v api.Value) bool {
	switch v.Kind {
	case api.Nil:
		return v == ofNil()
	case api.Bool:
		return v == ofBool(0) || v == ofBool(1)
	case api.Int:
		return v == ofInt(v.Int)
	case api.Float:
		return v == ofFloat(v.Bits)
	case api.Text:
		return v == ofText(v.Text)
	}
	return slices.Contains(things, v.Kind) && v == ofThing(v.Kind, v.Ref)
}

// expected says what 7.2 says: the word, or the new cell, or the error.
func expected(all map[uint64]api.Cell, v api.Value) (w uint64, c api.Cell, e api.Errno) {
	if !rightFields(v) {
		return 0, c, api.ErrArg
	}
	if slices.Contains(things, v.Kind) {
		if of, there := all[v.Ref]; !there || of.Kind != v.Kind {
			return 0, c, api.ErrHandle
		}
		return v.Ref, c, api.OK
	}
	switch v.Kind {
	case api.Nil:
		return nilWord, c, api.OK
	case api.Bool:
		return falseWord + uint64(v.Int), c, api.OK
	case api.Float:
		return canonical(v.Bits), c, api.OK
	case api.Int:
		if v.Int >= leastSmall && v.Int <= mostSmall {
			return smallWord(v.Int), c, api.OK
		}
		return 0, number(v.Int), api.OK
	}
	if len(v.Text) > 1<<23 {
		return 0, c, api.ErrLong
	}
	if len(v.Text) <= 5 {
		return shortWord(v.Text), c, api.OK
	}
	return 0, text(v.Text), api.OK
}

func canonical(bits uint64) uint64 {
	if math.IsNaN(math.Float64frombits(bits)) {
		return api.Canon
	}
	return bits
}

// box answers what Box answered, if that, and what the heap holds behind it, is what it must be.
func box(t *testing.T, h *heap.Heap, v api.Value, roots ...uint64) (uint64, api.Errno) {
	t.Helper()
	ahead, from := held(h), slices.Clone(roots)
	w, e := value.Box(h, v, roots)
	behind := held(h)
	if !slices.Equal(roots, from) {
		t.Fatalf("Box(%s) has changed the roots", tell(v))
	}
	want, c, wantE := expected(ahead, v)
	made := wantE == api.OK && want == 0 && c.Kind != api.Nil
	keep := reached(ahead, roots...)
	if made && needs(keep)+heap.Need(c) > h.Room() {
		wantE, made, ahead = api.ErrMemory, false, keep
	}
	if made && e == api.OK {
		wantMade(t, w, c, ahead, keep, behind)
		return w, e
	}
	if w != want || e != wantE {
		t.Fatalf("Box(%s) is %x, %d; want %x, %d", tell(v), w, e, want, wantE)
	}
	if !reflect.DeepEqual(behind, ahead) {
		t.Fatalf("behind Box(%s), %d, the heap holds %x; want %x", tell(v), e, words(behind), words(ahead))
	}
	return w, e
}

// wantMade asks for the new cell, all that the roots reach, and nothing that was not there.
func wantMade(t *testing.T, w uint64, c api.Cell, ahead, keep, behind map[uint64]api.Cell) {
	t.Helper()
	if got, there := behind[w]; !there || !reflect.DeepEqual(got, c) {
		t.Fatalf("Box has made %x, %v; want a cell of the kind %d", w, got, c.Kind)
	}
	if _, taken := keep[w]; taken {
		t.Fatalf("Box has given the word %x of a cell that is reached", w)
	}
	for x, c := range keep {
		if got, there := behind[x]; !there || !reflect.DeepEqual(got, c) {
			t.Fatalf("the cell %x was reached, and is not as it was", x)
		}
	}
	for x, c := range behind {
		if was, there := ahead[x]; x != w && (!there || !reflect.DeepEqual(was, c)) {
			t.Fatalf("there is a cell %x that was not there", x)
		}
	}
}

func words(cells map[uint64]api.Cell) []uint64 { return slices.Sorted(maps.Keys(cells)) }

func wantBox(t *testing.T, h *heap.Heap, v api.Value, want uint64, roots ...uint64) {
	t.Helper()
	if w, e := box(t, h, v, roots...); w != want || e != api.OK {
		t.Fatalf("Box(%s) is %x, %d; want %x", tell(v), w, e, want)
	}
}

// wantCell asks for a word with the handle of a cell that has just this.
func wantCell(t *testing.T, h *heap.Heap, v api.Value, want api.Cell, roots ...uint64) uint64 {
	t.Helper()
	w, e := box(t, h, v, roots...)
	if e != api.OK || w>>48 != 0xfffb {
		t.Fatalf("Box(%s) is %x, %d; want a handle", tell(v), w, e)
	}
	if c, e := get(h, w); e != api.OK || !reflect.DeepEqual(c, want) {
		t.Fatalf("Box(%s) has made a cell of the kind %d, %d", tell(v), c.Kind, e)
	}
	return w
}

func wantNoBox(t *testing.T, h *heap.Heap, v api.Value, want api.Errno, roots ...uint64) {
	t.Helper()
	if w, e := box(t, h, v, roots...); w != 0 || e != want {
		t.Fatalf("Box(%s) is %x, %d; want %d", tell(v), w, e, want)
	}
}

func wantUnbox(t *testing.T, h *heap.Heap, w uint64, want api.Value) {
	t.Helper()
	if v, e := value.Unbox(h, w); v != want || e != api.OK {
		t.Fatalf("Unbox(%x) is %s, %d; want %s", w, tell(v), e, tell(want))
	}
}

func wantNoUnbox(t *testing.T, h *heap.Heap, w uint64, want api.Errno) {
	t.Helper()
	if v, e := value.Unbox(h, w); v != (api.Value{}) || e != want {
		t.Fatalf("Unbox(%x) is %s, %d; want %d", w, tell(v), e, want)
	}
}

func wantSame(t *testing.T, h *heap.Heap, a, b uint64, want bool) {
	t.Helper()
	if got, e := value.Same(h, a, b); got != want || e != api.OK {
		t.Fatalf("Same(%x, %x) is %v, %d; want %v", a, b, got, e, want)
	}
}

func wantNoSame(t *testing.T, h *heap.Heap, a, b uint64, want api.Errno) {
	t.Helper()
	if got, e := value.Same(h, a, b); got || e != want {
		t.Fatalf("Same(%x, %x) is %v, %d; want %d", a, b, got, e, want)
	}
}

// sample is a heap with a cell of each sort, and one handle of a cell that is gone.
type sample struct {
	h     *heap.Heap
	cells map[uint64]api.Cell
	gone  uint64
}

// newSample puts cells of each sort; some hold what would have needed none.
func newSample(t *testing.T, units int) *sample {
	t.Helper()
	s := &sample{h: newHeap(t, units), cells: map[uint64]api.Cell{}}
	for _, i := range []int64{0, 5, leastSmall, mostSmall, mostSmall + 1, math.MinInt64} {
		s.put(t, number(i))
	}
	for _, x := range []string{"", "ab", "hello", "hello!", "many bytes of text\x00"} {
		s.put(t, text(x))
	}
	for _, kind := range buffers {
		base := s.put(t, buffer(kind, 0, 1, 2, 3, 4, 5, 6, 7, 8, 9, 10, 11, 12, 13, 14, 15))
		s.put(t, buffer(kind))
		for _, of := range buffers {
			s.put(t, view(of, base, 8, 1))
		}
		s.put(t, view(kind, base, 0, 0))
	}
	r := s.put(t, row())
	s.put(t, row(r, nilWord, 0))
	s.gone = put(t, s.h, row(smallWord(1)), words(s.cells)...)
	s.h.Collect(words(s.cells))
	return s
}

func (s *sample) put(t *testing.T, c api.Cell) uint64 {
	t.Helper()
	w := put(t, s.h, c, words(s.cells)...)
	s.cells[w], _ = get(s.h, w)
	return w
}

// find is the word of some cell with a Kind, that is a view or not.
func (s *sample) find(t *testing.T, kind int, isView bool) uint64 {
	t.Helper()
	for _, w := range words(s.cells) {
		if c := s.cells[w]; c.Kind == kind && c.View == isView {
			return w
		}
	}
	t.Fatalf("no cell of the kind %d", kind)
	return 0
}

// wantAll asks for the cells as they were.
func (s *sample) wantAll(t *testing.T) {
	t.Helper()
	if got := held(s.h); !reflect.DeepEqual(got, s.cells) {
		t.Fatalf("the heap holds %x; want %x", words(got), words(s.cells))
	}
}

// chance is numbers that look like chance, the same each time.
type chance uint64

func (c *chance) word() uint64 {
	*c += 0x9e3779b97f4a7c15
	z := uint64(*c)
	z = (z ^ z>>30) * 0xbf58476d1ce4e5b9
	z = (z ^ z>>27) * 0x94d049bb133111eb
	return z ^ z>>31
}

func (c *chance) below(n int) int { return int(c.word() % uint64(n)) }
