package ops_test

import (
	"fmt"
	"maps"
	"math"
	"reflect"
	"slices"
	"testing"

	"casket/api"
	"casket/heap"
	"casket/ops"
)

const (
	nilWord   = 0xfff8000000000000
	falseWord = 0xfff8000000000001
	trueWord  = 0xfff8000000000002

	least = math.MinInt64
	most  = math.MaxInt64
)

// smallWord is written out here, and not asked of package word: the two are held against each other.
func smallWord(i int64) uint64 { return 0xfff9<<48 | uint64(i)&(1<<48-1) }

func shortWord(s string) uint64 {
	if len(s) > 5 {
		panic("a test asks for the word of a string that none holds")
	}
	w := 0xfffa<<48 | uint64(len(s))<<40
	for i := range len(s) {
		w |= uint64(s[i]) << (8 * i)
	}
	return w
}

func handleWord(n uint64) uint64 { return 0xfffb<<48 | n }

func doubleWord(x float64) uint64 { return math.Float64bits(x) }

// unaries and binaries are all operators; noUnaries and noBinaries texts that are none.
var (
	unaries  = []string{"-", "~", "not"}
	binaries = []string{"+", "-", "*", "/", "//", "%", "&", "|", "^", "<<", ">>", "<", "<=", ">", ">=", "==", "!="}

	noUnaries  = []string{"", "!", "+", "*", "&", "--", "~~", "- ", " -", "-\x00", "Not", "NOT", "nOt", "no", "nott", "not ", " not", "!=", "and", "or", "neg", "int", "len", "\u2212", "\xff", "~-", "<"}
	noBinaries = []string{"", "=", "and", "or", "not", "~", "!", "+ ", " +", "++", "+-", "+=", "**", "///", "/ /", "%%", "&&", "||", "^^", "===", "!==", "<>", "=<", "=>", "<=>", "<<<", ">>>", "< =", "add", "Add", "len", "\x00", "+\x00", "\xff", "\u2260", "&^", ":", ".."}
)

// arities are all built-in functions; noBuiltins texts that name none.
var (
	arities = map[string]int{
		"int": 1, "float": 1, "text": 1, "num": 1, "len": 1, "sub": 3, "byte": 2, "chr": 1, "bits": 1, "frombits": 1,
		"f64": 1, "f32": 1, "i16": 1, "u8": 1, "row": 1, "view": 4, "load": 2, "store": 3, "kind": 1,
	}
	noBuiltins = []string{"", "frob", "fn", "Int", "INT", "int ", " int", "in", "intt", "i8", "i32", "i64", "u16", "u32", "f16", "f8", "bool", "nil", "string", "str", "rows", "length", "Len", "len\x00", "\x00", "ord", "views", "stores", "kinds", "frombit", "bit", "tobits", "told", "true", "+", "-", "not", "out", "return", "chr\n", "\xff", "text(", "nan", "inf"}
)

func names() []string { return slices.Sorted(maps.Keys(arities)) }

// buffers are the kinds of buffers and views; things those and rows.
var (
	buffers = []int{api.F64, api.F32, api.I16, api.U8}
	things  = []int{api.F64, api.F32, api.I16, api.U8, api.Row}
)

// called is what a kind is called.
func called(kind int) string {
	return []string{"nil", "bool", "int", "float", "text", "f64", "f32", "i16", "u8", "row"}[kind]
}

func width(kind int) int {
	return map[int]int{api.F64: 8, api.F32: 4, api.I16: 2, api.U8: 1, api.Row: 8}[kind]
}

// strays are words of no value, of each sort that there is.
var strays = []uint64{
	0x7ff8000000000001, 0x7ff0000000000001, 0x7fffffffffffffff, 0x7ffa010000000061, 0xfff0000000000001, 0xfff8000000000003, 0xfff8800000000000,
	0xfffa060000000000, 0xfffaff0000000000, 0xfffa010000006261, 0xfffa000000000001, 0xfffa048000000000, 0xfffc000000000000, 0xffffffffffffffff,
}

// nobodys are words with handles that no small heap has given.
var nobodys = []uint64{handleWord(1 << 20), handleWord(1 << 31), handleWord(1 << 32), handleWord(1<<48 - 1)}

// plains are words that hold all of a value.
var plains = []uint64{
	nilWord, falseWord, trueWord, smallWord(0), smallWord(1), smallWord(5), smallWord(-1), smallWord(-1 << 47), smallWord(1<<47 - 1),
	shortWord(""), shortWord("1"), shortWord("ab"), shortWord("hello"), shortWord("\x00\x00\x00\x00\x00"),
	0, 1, 1 << 63, 0x3ff0000000000000, 0x0000000000006261, 0x7fefffffffffffff, 0x7ff0000000000000, 0xfff0000000000000, api.Canon,
}

func number(i int64) api.Cell             { return api.Cell{Kind: api.Int, Int: i} }
func textCell(s string) api.Cell          { return api.Cell{Kind: api.Text, Text: s} }
func buffer(kind int, b ...byte) api.Cell { return api.Cell{Kind: kind, Bytes: b} }
func row(words ...uint64) api.Cell        { return api.Cell{Kind: api.Row, Words: words} }
func view(kind int, base uint64, from, n int) api.Cell {
	return api.Cell{Kind: kind, View: true, Base: base, From: from, Len: n}
}

// counted are n bytes that tell their places.
func counted(n int) []byte {
	b := make([]byte, n)
	for i := range b {
		b[i] = byte(17*i + 1)
	}
	return b
}

func newHeap(t *testing.T, units int) *heap.Heap {
	t.Helper()
	h, e := heap.New(units)
	if h == nil || e != api.OK {
		t.Fatalf("heap.New(%d) is %v, %d", units, h, e)
	}
	return h
}

func put(t *testing.T, h *heap.Heap, c api.Cell, roots ...uint64) uint64 {
	t.Helper()
	w, e := h.Put(c, roots)
	if e != api.OK {
		t.Fatalf("Put of a cell of the kind %d is %d", c.Kind, e)
	}
	return w
}

// fill puts cells that nothing will reach, until no unit is free.
func fill(t *testing.T, h *heap.Heap) {
	t.Helper()
	for needs(held(h)) < h.Room() {
		put(t, h, row(), words(held(h))...)
	}
}

// held are all cells of a heap, by word, with nil for each empty list.
func held(h *heap.Heap) map[uint64]api.Cell {
	all := map[uint64]api.Cell{}
	for w := range h.Cells() {
		c, _ := h.Get(w)
		all[w] = bare(c)
	}
	return all
}

// bare has nil for each empty list.
func bare(c api.Cell) api.Cell {
	if len(c.Bytes) == 0 {
		c.Bytes = nil
	}
	if len(c.Words) == 0 {
		c.Words = nil
	}
	return c
}

// reached are those of all that are reached from words.
func reached(all map[uint64]api.Cell, words ...uint64) map[uint64]api.Cell {
	found := map[uint64]api.Cell{}
	for len(words) > 0 {
		w := words[0]
		words = words[1:]
		c, there := all[w]
		if _, already := found[w]; there && !already {
			found[w] = c
			words = append(append(slices.Clone(words), c.Words...), c.Base)
		}
	}
	return found
}

func needs(cells map[uint64]api.Cell) int {
	sum := 0
	for _, c := range cells {
		sum += heap.Need(c)
	}
	return sum
}

func words(cells map[uint64]api.Cell) []uint64 { return slices.Sorted(maps.Keys(cells)) }

// wantHeld asks for just the cells of these words; those that have no handle are passed over.
func wantHeld(t *testing.T, h *heap.Heap, keep ...uint64) {
	t.Helper()
	keep = slices.DeleteFunc(slices.Clone(keep), func(w uint64) bool { return w>>48 != 0xfffb })
	keep = slices.Compact(slices.Sorted(slices.Values(keep)))
	if got := words(held(h)); !slices.Equal(got, keep) {
		t.Fatalf("the heap holds %x; want %x", got, keep)
	}
}

// wantSame asks for the cells that were there ahead, as they were.
func wantSame(t *testing.T, h *heap.Heap, name string, ahead map[uint64]api.Cell) {
	t.Helper()
	if behind := held(h); !reflect.DeepEqual(behind, ahead) {
		t.Fatalf("behind %s the heap holds %v; want %v", name, behind, ahead)
	}
}

// task is a call, and what it must do: all are the cells of the heap ahead of it, or, where it writes, as it must leave them.
type task struct {
	name   string
	all    map[uint64]api.Cell
	handed []uint64
	want   outcome
	call   func(handed, roots []uint64) (uint64, api.Errno)
}

// does answers what a call answered, if that, and what the heap holds behind it, is what it must be. The lists that it is given have spare room, in which the handle of each cell of the heap stands.
func does(t *testing.T, h *heap.Heap, x task, roots []uint64) (uint64, api.Errno) {
	t.Helper()
	handed, handedWas := spared(x.all, x.handed)
	list, listWas := spared(x.all, roots)
	w, e := x.call(handed[:len(x.handed)], list[:len(roots)])
	if !slices.Equal(handed, handedWas) || !slices.Equal(list, listWas) {
		t.Fatalf("%s has changed what it was handed, or what lies behind", x.name)
	}
	keep := reached(x.all, slices.Concat(roots, x.handed)...)
	want, all := x.want, x.all
	if want.made != nil && needs(keep)+heap.Need(*want.made) > h.Room() {
		want, all = refused(api.ErrMemory), keep
	}
	behind := held(h)
	switch {
	case e != want.e || want.made == nil && w != want.word:
		t.Fatalf("%s is %x, %d; want %x, %d", x.name, w, e, want.word, want.e)
	case want.made != nil:
		wantMade(t, x.name, w, *want.made, all, keep, behind)
	case !reflect.DeepEqual(behind, all):
		t.Fatalf("behind %s the heap holds %v; want %v", x.name, behind, all)
	}
	if e == api.OK {
		wantValue(t, behind, x.name, w)
	}
	return w, e
}

// spared is a list with spare room, and what stands in both.
func spared(all map[uint64]api.Cell, list []uint64) (long, was []uint64) {
	long = slices.Concat(list, words(all), []uint64{nilWord, nilWord, nilWord, nilWord})
	return long, slices.Clone(long)
}

// wantMade asks for the new cell, all that the roots reach, and nothing that was not there.
func wantMade(t *testing.T, name string, w uint64, made api.Cell, ahead, keep, behind map[uint64]api.Cell) {
	t.Helper()
	if got, there := behind[w]; !there || !reflect.DeepEqual(got, bare(made)) {
		t.Fatalf("%s has made %x, %v; want %v", name, w, got, made)
	}
	if _, taken := keep[w]; taken {
		t.Fatalf("%s has given the word %x of a cell that is reached", name, w)
	}
	for x, c := range keep {
		if got, there := behind[x]; !there || !reflect.DeepEqual(got, c) {
			t.Fatalf("behind %s the cell %x, that was reached, is not as it was", name, x)
		}
	}
	for x, c := range behind {
		if was, there := ahead[x]; x != w && (!there || !reflect.DeepEqual(was, c)) {
			t.Fatalf("behind %s there is a cell %x that was not there", name, x)
		}
	}
}

// wantValue asks for a word that is not stray, with no NaN in it but Canon (10.6).
func wantValue(t *testing.T, behind map[uint64]api.Cell, name string, w uint64) {
	t.Helper()
	v, e := valueIn(behind, w)
	if e != api.OK || v.Kind == api.Float && v.Bits != 0x7ff8000000000000 && math.IsNaN(math.Float64frombits(v.Bits)) {
		t.Fatalf("%s is %x: %v, %d", name, w, v, e)
	}
}

func doUnary(t *testing.T, h *heap.Heap, op string, a uint64, roots ...uint64) (uint64, api.Errno) {
	t.Helper()
	x := task{name: fmt.Sprintf("Unary(%q, %x)", op, a), all: held(h), handed: []uint64{a}}
	x.want = unaryOf(x.all, op, a)
	x.call = func(_, roots []uint64) (uint64, api.Errno) { return ops.Unary(h, op, a, roots) }
	return does(t, h, x, roots)
}

func doBinary(t *testing.T, h *heap.Heap, op string, a, b uint64, roots ...uint64) (uint64, api.Errno) {
	t.Helper()
	x := task{name: fmt.Sprintf("Binary(%q, %x, %x)", op, a, b), all: held(h), handed: []uint64{a, b}}
	x.want = binaryOf(x.all, op, a, b)
	x.call = func(_, roots []uint64) (uint64, api.Errno) { return ops.Binary(h, op, a, b, roots) }
	return does(t, h, x, roots)
}

func doBuiltin(t *testing.T, h *heap.Heap, name string, args []uint64, roots ...uint64) (uint64, api.Errno) {
	t.Helper()
	x := task{name: fmt.Sprintf("Builtin(%q, %x)", name, args), all: held(h), handed: args}
	x.want = builtinOf(h.Room(), x.all, name, args)
	x.call = func(args, roots []uint64) (uint64, api.Errno) { return ops.Builtin(h, name, args, roots) }
	return does(t, h, x, roots)
}

// doTold answers what Told answered, if it is what it must be, and nothing has changed.
func doTold(t *testing.T, h *heap.Heap, w uint64) (string, api.Errno) {
	t.Helper()
	all := held(h)
	s, e := ops.Told(h, w)
	if want, f := toldOf(all, w); s != want || e != f {
		t.Fatalf("Told(%x) is %q, %d; want %q, %d", w, s, e, want, f)
	}
	wantSame(t, h, "Told", all)
	return s, e
}

// wantIs asks for a value, or, where want is an Errno, for that.
func wantIs(t *testing.T, h *heap.Heap, name string, w uint64, e api.Errno, want any) {
	t.Helper()
	if f, refusal := want.(api.Errno); refusal {
		if e != f || w != 0 {
			t.Fatalf("%s is %x, %d; want %d", name, w, e, f)
		}
		return
	}
	v, f := valueIn(held(h), w)
	if e != api.OK || f != api.OK || v != want.(api.Value) {
		t.Fatalf("%s is %v, %d; want %v", name, v, e, want)
	}
}

func wantUnary(t *testing.T, h *heap.Heap, op string, a uint64, want any, roots ...uint64) uint64 {
	t.Helper()
	w, e := doUnary(t, h, op, a, roots...)
	wantIs(t, h, fmt.Sprintf("Unary(%q, %x)", op, a), w, e, want)
	return w
}

func wantBinary(t *testing.T, h *heap.Heap, op string, a, b uint64, want any, roots ...uint64) uint64 {
	t.Helper()
	w, e := doBinary(t, h, op, a, b, roots...)
	wantIs(t, h, fmt.Sprintf("Binary(%q, %x, %x)", op, a, b), w, e, want)
	return w
}

func wantBuiltin(t *testing.T, h *heap.Heap, name string, args []uint64, want any, roots ...uint64) uint64 {
	t.Helper()
	w, e := doBuiltin(t, h, name, args, roots...)
	wantIs(t, h, fmt.Sprintf("Builtin(%q, %x)", name, args), w, e, want)
	return w
}

func wantTold(t *testing.T, h *heap.Heap, w uint64, want string, f api.Errno) {
	t.Helper()
	if s, e := doTold(t, h, w); s != want || e != f {
		t.Fatalf("Told(%x) is %q, %d; want %q, %d", w, s, e, want, f)
	}
}

// Values, as they are asked for.
func isNil() api.Value             { return api.Value{Kind: api.Nil} }
func isInt(i int64) api.Value      { return api.Value{Kind: api.Int, Int: i} }
func isBits(bits uint64) api.Value { return api.Value{Kind: api.Float, Bits: bits} }
func isDouble(x float64) api.Value { return isBits(canonical(x)) }
func isText(s string) api.Value    { return api.Value{Kind: api.Text, Text: s} }
func isTruth(b bool) api.Value {
	if b {
		return api.Value{Kind: api.Bool, Int: 1}
	}
	return api.Value{Kind: api.Bool}
}
func isThing(kind int, w uint64) api.Value { return api.Value{Kind: kind, Ref: w} }

// args is a list of words.
func args(words ...uint64) []uint64 { return words }

// desk is a heap whose cells are all kept: words are made on it for whatever is asked of them.
type desk struct {
	h    *heap.Heap
	keep []uint64
}

func newDesk(t *testing.T, units int) *desk { return &desk{h: newHeap(t, units)} }

func (d *desk) put(t *testing.T, c api.Cell) uint64 {
	t.Helper()
	w := put(t, d.h, c, d.keep...)
	d.keep = append(d.keep, w)
	return w
}

// whole is the word of a number: in a cell only where it is not small.
func (d *desk) whole(t *testing.T, i int64) uint64 {
	t.Helper()
	if i >= -1<<47 && i < 1<<47 {
		return smallWord(i)
	}
	return d.put(t, number(i))
}

// text is the word of a string: in a cell only where it has more than five bytes.
func (d *desk) text(t *testing.T, s string) uint64 {
	t.Helper()
	if len(s) <= 5 {
		return shortWord(s)
	}
	return d.put(t, textCell(s))
}

// word is that of an int, a float64, a string, a bool, nil, or of what is a word already.
func (d *desk) word(t *testing.T, x any) uint64 {
	t.Helper()
	switch x := x.(type) {
	case nil:
		return nilWord
	case bool:
		return nilWord + 1 + uint64(isTruth(x).Int)
	case int:
		return d.whole(t, int64(x))
	case float64:
		return canonical(x)
	case string:
		return d.text(t, x)
	}
	return x.(uint64)
}

func (d *desk) words(t *testing.T, all ...any) []uint64 {
	t.Helper()
	var list []uint64
	for _, x := range all {
		list = append(list, d.word(t, x))
	}
	return list
}

// sample is a desk with a cell of each sort, and one handle of a cell that is gone: as long as no cell is made, which may take it over.
type sample struct {
	desk
	cells map[uint64]api.Cell
	gone  uint64
}

func newSample(t *testing.T) *sample {
	t.Helper()
	s := &sample{desk: *newDesk(t, 70)}
	for _, i := range []int64{0, 5, 1 << 47, math.MinInt64} {
		s.put(t, number(i))
	}
	for _, x := range []string{"", "ab", "hello", "hello!", "many bytes of text\x00"} {
		s.put(t, textCell(x))
	}
	for _, kind := range buffers {
		base := s.put(t, buffer(kind, counted(16)...))
		s.put(t, buffer(kind))
		for _, of := range buffers {
			s.put(t, view(of, base, 8, 1))
		}
		s.put(t, view(kind, base, 0, 0))
	}
	r := s.put(t, row())
	s.put(t, row(r, nilWord, shortWord("ab")))
	s.gone = put(t, s.h, textCell("gone"), s.keep...)
	s.h.Collect(s.keep)
	s.cells = held(s.h)
	return s
}

// all are its words, and those that hold all of a value.
func (s *sample) all() []uint64 { return slices.Concat(plains, s.keep) }

// bad is a word that is no value, and what is told of it.
type bad struct {
	w uint64
	e api.Errno
}

// bads are words of each sort that are no values.
func (s *sample) bads() []bad {
	var all []bad
	for _, w := range strays {
		all = append(all, bad{w, api.ErrStray})
	}
	for _, w := range append(slices.Clone(nobodys), s.gone) {
		all = append(all, bad{w, api.ErrHandle})
	}
	return all
}

// find is the word of one of its cells.
func (s *sample) find(t *testing.T, c api.Cell) uint64 {
	t.Helper()
	for w, x := range s.cells {
		if reflect.DeepEqual(x, bare(c)) {
			return w
		}
	}
	t.Fatalf("the sample has no cell %v", c)
	return 0
}

// ofEachKind is a word of each kind: in words, in cells, things, views.
func (s *sample) ofEachKind(t *testing.T) []uint64 {
	t.Helper()
	all := []uint64{nilWord, trueWord, smallWord(1), doubleWord(1), shortWord("ab"), s.find(t, number(5)), s.find(t, number(1<<47)), s.find(t, textCell("hello")), s.find(t, textCell("hello!"))}
	for _, kind := range buffers {
		base := s.find(t, buffer(kind, counted(16)...))
		all = append(all, base, s.find(t, view(kind, base, 8, 1)))
	}
	return append(all, s.find(t, row()))
}

// chance is numbers that look like chance, the same each time.
type chance uint64

func (c *chance) next() uint64 {
	*c += 0x9e3779b97f4a7c15
	z := uint64(*c)
	z = (z ^ z>>30) * 0xbf58476d1ce4e5b9
	z = (z ^ z>>27) * 0x94d049bb133111eb
	return z ^ z>>31
}

func (c *chance) below(n int) int { return int(c.next() % uint64(n)) }

// doBinaryPlain is for strings that are too long to be held against a model.
func doBinaryPlain(h *heap.Heap, op string, a, b uint64) (uint64, api.Errno) {
	return ops.Binary(h, op, a, b, nil)
}
