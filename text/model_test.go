package text_test

import (
	"fmt"
	"maps"
	"math"
	"reflect"
	"slices"
	"strings"
	"testing"

	"casket/api"
	"casket/heap"
	"casket/text"
	"casket/value"
)

const (
	nilWord   = 0xfff8000000000000
	falseWord = 0xfff8000000000001
	trueWord  = 0xfff8000000000002

	leastIndex = math.MinInt64
	mostIndex  = math.MaxInt64
)

// smallWord is written out here, and not asked of package word: the two are held against each other.
func smallWord(i int64) uint64 { return 0xfff9<<48 | uint64(i)&(1<<48-1) }

func shortWord(s string) uint64 {
	if len(s) > 5 {
		panic("a test asks for the word of a string that none holds")
	}
	w := 0xfffa<<48 | uint64(len(s))<<40
	for i := range len(s) {
		w |= uint64(s[i]) << (8 * i)
	}
	return w
}

func handleWord(n uint64) uint64 { return 0xfffb<<48 | n }

// buffers are the kinds of buffers and views.
var buffers = []int{api.F64, api.F32, api.I16, api.U8}

// strays are words of no value, of each sort that there is.
var strays = []uint64{
	0x7ff8000000000001, 0x7ff0000000000001, 0x7fffffffffffffff, 0x7ffa010000000061, 0xfff0000000000001, 0xfff8000000000003, 0xfff8800000000000,
	0xfffa060000000000, 0xfffaff0000000000, 0xfffa010000006261, 0xfffa000000000001, 0xfffa048000000000, 0xfffc000000000000, 0xffffffffffffffff,
}

// nobodys are words with handles that no small heap has given.
var nobodys = []uint64{handleWord(1 << 20), handleWord(1 << 31), handleWord(1 << 32), handleWord(1<<48 - 1)}

// plains are words that hold all of a value that is no string.
var plains = []uint64{
	nilWord, falseWord, trueWord, smallWord(0), smallWord(5), smallWord(-1), smallWord(-1 << 47), smallWord(1<<47 - 1),
	0, 1, 1 << 63, 0x3ff0000000000000, 0x0000000000006261, 0x7fefffffffffffff, 0x7ff0000000000000, 0xfff0000000000000, api.Canon,
}

// shorts are strings that words of their own hold.
var shorts = []string{"", "a", "\x00", "\xff", "ab", "a\x00", "\x00a", "abc", "abcd", "\x00\x00\x00\x00", "hello", "\x00\x00\x00\x00\x00", "\xff\xfe\xfd\xfc\xfb", "äö\x80"}

// longs are those that need a cell.
var longs = []string{
	"hello!", "\x00\x00\x00\x00\x00\x00", "\xff\xff\xff\xff\xff\xff", "abcdefg", "abcdefgh", "abcdefghi", "äöü\x80\xc3", strings.Repeat("\x00", 16),
	strings.Repeat("x", 17), strings.Repeat("\xfb\xff\x00", 20),
}

func number(i int64) api.Cell             { return api.Cell{Kind: api.Int, Int: i} }
func textCell(s string) api.Cell          { return api.Cell{Kind: api.Text, Text: s} }
func buffer(kind int, b ...byte) api.Cell { return api.Cell{Kind: kind, Bytes: b} }
func row(words ...uint64) api.Cell        { return api.Cell{Kind: api.Row, Words: words} }
func view(kind int, base uint64, from, n int) api.Cell {
	return api.Cell{Kind: kind, View: true, Base: base, From: from, Len: n}
}

func newHeap(t *testing.T, units int) *heap.Heap {
	t.Helper()
	h, e := heap.New(units)
	if h == nil || e != api.OK {
		t.Fatalf("heap.New(%d) is %v, %d", units, h, e)
	}
	return h
}

func put(t *testing.T, h *heap.Heap, c api.Cell, roots ...uint64) uint64 {
	t.Helper()
	w, e := h.Put(c, roots)
	if e != api.OK {
		t.Fatalf("Put of a cell of the kind %d is %d", c.Kind, e)
	}
	return w
}

// both are the words of a string: the one that value.Box would give, and that of a cell, if these are two.
func both(t *testing.T, h *heap.Heap, s string, roots ...uint64) []uint64 {
	t.Helper()
	cell := put(t, h, textCell(s), roots...)
	if len(s) > 5 {
		return []uint64{cell}
	}
	return []uint64{shortWord(s), cell}
}

// tell shortens a string that has too much to be read.
func tell(s string) string {
	if len(s) > 80 {
		return fmt.Sprintf("%q and %d bytes more", s[:20], len(s)-20)
	}
	return fmt.Sprintf("%q", s)
}

// held are all cells of a heap, by word, with nil for each empty list.
func held(h *heap.Heap) map[uint64]api.Cell {
	all := map[uint64]api.Cell{}
	for w := range h.Cells() {
		c, _ := h.Get(w)
		if len(c.Bytes) == 0 {
			c.Bytes = nil
		}
		if len(c.Words) == 0 {
			c.Words = nil
		}
		all[w] = c
	}
	return all
}

// reached are those of all that are reached from words.
func reached(all map[uint64]api.Cell, words ...uint64) map[uint64]api.Cell {
	found := map[uint64]api.Cell{}
	for len(words) > 0 {
		w := words[0]
		words = words[1:]
		c, there := all[w]
		if _, already := found[w]; there && !already {
			found[w] = c
			words = append(append(slices.Clone(words), c.Words...), c.Base)
		}
	}
	return found
}

func needs(cells map[uint64]api.Cell) int {
	sum := 0
	for _, c := range cells {
		sum += heap.Need(c)
	}
	return sum
}

func words(cells map[uint64]api.Cell) []uint64 { return slices.Sorted(maps.Keys(cells)) }

// stringsOf says what 8.1 says: the strings of words, or the first thing that is wrong with them.
func stringsOf(h *heap.Heap, all ...uint64) ([]string, api.Errno) {
	var found []string
	for _, w := range all {
		v, e := value.Unbox(h, w)
		if e != api.OK {
			return nil, e
		}
		if v.Kind != api.Text {
			return nil, api.ErrType
		}
		found = append(found, v.Text)
	}
	return found, api.OK
}

// maker is a call that makes a string, and what it must do: s or e, with keep as roots.
type maker struct {
	name string
	call func(roots []uint64) (uint64, api.Errno)
	s    string
	e    api.Errno
	keep []uint64
}

// concat answers what Concat answered, if that, and what the heap holds behind it, is what it must be.
func concat(t *testing.T, h *heap.Heap, a, b uint64, roots ...uint64) (uint64, api.Errno) {
	t.Helper()
	parts, e := stringsOf(h, a, b)
	return makes(t, h, roots, maker{
		name: fmt.Sprintf("Concat(%x, %x)", a, b),
		call: func(roots []uint64) (uint64, api.Errno) { return text.Concat(h, a, b, roots) },
		s:    strings.Join(parts, ""), e: e, keep: []uint64{a, b},
	})
}

// sub answers what Sub answered, if that, and what the heap holds behind it, is what it must be.
func sub(t *testing.T, h *heap.Heap, w uint64, i, j int64, roots ...uint64) (uint64, api.Errno) {
	t.Helper()
	m := maker{
		name: fmt.Sprintf("Sub(%x, %d, %d)", w, i, j),
		call: func(roots []uint64) (uint64, api.Errno) { return text.Sub(h, w, i, j, roots) },
		keep: []uint64{w},
	}
	whole, e := stringsOf(h, w)
	if e != api.OK {
		m.e = e
	} else if n := int64(len(whole[0])); i < 0 || i > n || j < 0 || j > n || i > j {
		m.e = api.ErrIndex
	} else {
		m.s = whole[0][i:j]
	}
	return makes(t, h, roots, m)
}

// makes does what m says, with roots that have spare room, in which the handle of each cell of the heap stands.
func makes(t *testing.T, h *heap.Heap, roots []uint64, m maker) (uint64, api.Errno) {
	t.Helper()
	ahead := held(h)
	list := append(slices.Clone(roots), words(ahead)...)
	list = append(list, nilWord, nilWord, nilWord)
	was := slices.Clone(list)
	w, e := m.call(list[:len(roots)])
	behind := held(h)
	if !slices.Equal(list, was) {
		t.Fatalf("%s has changed the roots, or what lies behind them", m.name)
	}
	keep := reached(ahead, append(slices.Clone(roots), m.keep...)...)
	made := m.e == api.OK && len(m.s) > 5
	if made && len(m.s) > api.MaxBytes {
		m.e, made = api.ErrLong, false
	} else if made && needs(keep)+heap.Need(textCell(m.s)) > h.Room() {
		m.e, made, ahead = api.ErrMemory, false, keep
	}
	if made && e == api.OK {
		wantMade(t, m, w, ahead, keep, behind)
		return w, e
	}
	var want uint64
	if m.e == api.OK && !made {
		want = shortWord(m.s)
	}
	if w != want || e != m.e {
		t.Fatalf("%s is %x, %d; want %s, %d", m.name, w, e, tell(m.s), m.e)
	}
	if !reflect.DeepEqual(behind, ahead) {
		t.Fatalf("behind %s, %d, the heap holds %x; want %x", m.name, e, words(behind), words(ahead))
	}
	return w, e
}

// wantMade asks for the new cell, all that the roots reach, and nothing that was not there.
func wantMade(t *testing.T, m maker, w uint64, ahead, keep, behind map[uint64]api.Cell) {
	t.Helper()
	if got, there := behind[w]; !there || !reflect.DeepEqual(got, textCell(m.s)) {
		t.Fatalf("%s has made %x, %s; want a cell with %s", m.name, w, tell(got.Text), tell(m.s))
	}
	if _, taken := keep[w]; taken {
		t.Fatalf("%s has given the word %x of a cell that is reached", m.name, w)
	}
	for x, c := range keep {
		if got, there := behind[x]; !there || !reflect.DeepEqual(got, c) {
			t.Fatalf("behind %s the cell %x, that was reached, is not as it was", m.name, x)
		}
	}
	for x, c := range behind {
		if was, there := ahead[x]; x != w && (!there || !reflect.DeepEqual(was, c)) {
			t.Fatalf("behind %s there is a cell %x that was not there", m.name, x)
		}
	}
}

func wantConcat(t *testing.T, h *heap.Heap, a, b uint64, want string, roots ...uint64) uint64 {
	t.Helper()
	w, e := concat(t, h, a, b, roots...)
	wantString(t, h, "Concat", w, e, want)
	return w
}

func wantSub(t *testing.T, h *heap.Heap, w uint64, i, j int64, want string, roots ...uint64) uint64 {
	t.Helper()
	x, e := sub(t, h, w, i, j, roots...)
	wantString(t, h, "Sub", x, e, want)
	return x
}

// wantString asks for a word of its own, if the string is short, and for a handle, if it is not.
func wantString(t *testing.T, h *heap.Heap, name string, w uint64, e api.Errno, want string) {
	t.Helper()
	if e != api.OK {
		t.Fatalf("%s is %d; want %s", name, e, tell(want))
	}
	if len(want) <= 5 && w != shortWord(want) || len(want) > 5 && w>>48 != 0xfffb {
		t.Fatalf("%s is %x; want that of %s", name, w, tell(want))
	}
	wantOf(t, h, w, want)
}

func wantNoConcat(t *testing.T, h *heap.Heap, a, b uint64, want api.Errno, roots ...uint64) {
	t.Helper()
	if w, e := concat(t, h, a, b, roots...); w != 0 || e != want {
		t.Fatalf("Concat(%x, %x) is %x, %d; want %d", a, b, w, e, want)
	}
}

func wantNoSub(t *testing.T, h *heap.Heap, w uint64, i, j int64, want api.Errno, roots ...uint64) {
	t.Helper()
	if x, e := sub(t, h, w, i, j, roots...); x != 0 || e != want {
		t.Fatalf("Sub(%x, %d, %d) is %x, %d; want %d", w, i, j, x, e, want)
	}
}

func wantOf(t *testing.T, h *heap.Heap, w uint64, want string) {
	t.Helper()
	if s, e := text.Of(h, w); s != want || e != api.OK {
		t.Fatalf("Of(%x) is %s, %d; want %s", w, tell(s), e, tell(want))
	}
}

func wantLen(t *testing.T, h *heap.Heap, w uint64, want int) {
	t.Helper()
	if n, e := text.Len(h, w); n != want || e != api.OK {
		t.Fatalf("Len(%x) is %d, %d; want %d", w, n, e, want)
	}
}

func wantByte(t *testing.T, h *heap.Heap, w uint64, i int64, want byte) {
	t.Helper()
	if b, e := text.Byte(h, w, i); b != want || e != api.OK {
		t.Fatalf("Byte(%x, %d) is %d, %d; want %d", w, i, b, e, want)
	}
}

func wantNoByte(t *testing.T, h *heap.Heap, w uint64, i int64, want api.Errno) {
	t.Helper()
	if b, e := text.Byte(h, w, i); b != 0 || e != want {
		t.Fatalf("Byte(%x, %d) is %d, %d; want %d", w, i, b, e, want)
	}
}

func wantCompare(t *testing.T, h *heap.Heap, a, b uint64, want int) {
	t.Helper()
	if c, e := text.Compare(h, a, b); c != want || e != api.OK {
		t.Fatalf("Compare(%x, %x) is %d, %d; want %d", a, b, c, e, want)
	}
}

func wantNoCompare(t *testing.T, h *heap.Heap, a, b uint64, want api.Errno) {
	t.Helper()
	if c, e := text.Compare(h, a, b); c != 0 || e != want {
		t.Fatalf("Compare(%x, %x) is %d, %d; want %d", a, b, c, e, want)
	}
}

// sample is a heap with a cell of each sort, and one handle of a cell that is gone.
type sample struct {
	h     *heap.Heap
	cells map[uint64]api.Cell
	gone  uint64
}

func newSample(t *testing.T, units int) *sample {
	t.Helper()
	s := &sample{h: newHeap(t, units), cells: map[uint64]api.Cell{}}
	for _, i := range []int64{0, 5, 1 << 47, math.MinInt64} {
		s.put(t, number(i))
	}
	for _, x := range []string{"", "ab", "hello", "hello!", "many bytes of text\x00"} {
		s.put(t, textCell(x))
	}
	for _, kind := range buffers {
		base := s.put(t, buffer(kind, []byte("sixteen bytes ..")...))
		s.put(t, buffer(kind))
		for _, of := range buffers {
			s.put(t, view(of, base, 8, 1))
		}
		s.put(t, view(kind, base, 0, 0))
	}
	r := s.put(t, row())
	s.put(t, row(r, nilWord, shortWord("ab")))
	s.gone = put(t, s.h, textCell("gone by now"), words(s.cells)...)
	s.h.Collect(words(s.cells))
	return s
}

func (s *sample) put(t *testing.T, c api.Cell) uint64 {
	t.Helper()
	w := put(t, s.h, c, words(s.cells)...)
	s.cells[w] = held(s.h)[w]
	return w
}

// find is the word of the cell with a string.
func (s *sample) find(t *testing.T, x string) uint64 {
	t.Helper()
	for _, w := range words(s.cells) {
		if c := s.cells[w]; c.Kind == api.Text && c.Text == x {
			return w
		}
	}
	t.Fatalf("no cell with %s", tell(x))
	return 0
}

// wantAll asks for the cells as they were.
func (s *sample) wantAll(t *testing.T) {
	t.Helper()
	if got := held(s.h); !reflect.DeepEqual(got, s.cells) {
		t.Fatalf("the heap holds %x; want %x", words(got), words(s.cells))
	}
}

// chance is numbers that look like chance, the same each time.
type chance uint64

func (c *chance) word() uint64 {
	*c += 0x9e3779b97f4a7c15
	z := uint64(*c)
	z = (z ^ z>>30) * 0xbf58476d1ce4e5b9
	z = (z ^ z>>27) * 0x94d049bb133111eb
	return z ^ z>>31
}

func (c *chance) below(n int) int { return int(c.word() % uint64(n)) }
