package buf_test

import (
	"encoding/binary"
	"fmt"
	"maps"
	"math"
	"math/big"
	"reflect"
	"slices"
	"testing"

	"casket/api"
	"casket/buf"
	"casket/heap"
	"casket/value"
)

const (
	nilWord   = 0xfff8000000000000
	falseWord = 0xfff8000000000001
	trueWord  = 0xfff8000000000002

	least = math.MinInt64
	most  = math.MaxInt64
)

// smallWord is written out here, and not asked of package word: the two are held against each other.
func smallWord(i int64) uint64 { return 0xfff9<<48 | uint64(i)&(1<<48-1) }

func shortWord(s string) uint64 {
	if len(s) > 5 {
		panic("a test asks for the word of a string that none holds")
	}
	w := 0xfffa<<48 | uint64(len(s))<<40
	for i := range len(s) {
		w |= uint64(s[i]) << (8 * i)
	}
	return w
}

func handleWord(n uint64) uint64 { return 0xfffb<<48 | n }

func doubleWord(x float64) uint64 { return math.Float64bits(x) }

// buffers are the kinds of buffers and views; things those and rows.
var (
	buffers = []int{api.F64, api.F32, api.I16, api.U8}
	things  = []int{api.F64, api.F32, api.I16, api.U8, api.Row}
)

// noKinds are numbers that are no kind of a thing: kinds of other values, and of nothing.
var noKinds = []int{
	api.Nil, api.Bool, api.Int, api.Float, api.Text, api.Row + 1, api.Row + 2, 16, 99, 255, 256 + api.F64, 1<<16 + api.U8, 1<<32 + api.U8, 1<<32 + api.Row,
	-1, -api.F64, -api.U8, -api.Row, -1 << 32, math.MinInt, math.MaxInt,
}

// width is written out here, and not asked of Width.
func width(kind int) int {
	return map[int]int{api.F64: 8, api.F32: 4, api.I16: 2, api.U8: 1, api.Row: 8}[kind]
}

// strays are words of no value, of each sort that there is.
var strays = []uint64{
	0x7ff8000000000001, 0x7ff0000000000001, 0x7fffffffffffffff, 0x7ffa010000000061, 0xfff0000000000001, 0xfff8000000000003, 0xfff8800000000000,
	0xfffa060000000000, 0xfffaff0000000000, 0xfffa010000006261, 0xfffa000000000001, 0xfffa048000000000, 0xfffc000000000000, 0xffffffffffffffff,
}

// nobodys are words with handles that no small heap has given.
var nobodys = []uint64{handleWord(1 << 20), handleWord(1 << 31), handleWord(1 << 32), handleWord(1<<48 - 1)}

// plains are words that hold all of a value.
var plains = []uint64{
	nilWord, falseWord, trueWord, smallWord(0), smallWord(1), smallWord(5), smallWord(-1), smallWord(-1 << 47), smallWord(1<<47 - 1),
	shortWord(""), shortWord("1"), shortWord("ab"), shortWord("hello"), shortWord("\x00\x00\x00\x00\x00"),
	0, 1, 1 << 63, 0x3ff0000000000000, 0x0000000000006261, 0x7fefffffffffffff, 0x7ff0000000000000, 0xfff0000000000000, api.Canon,
}

// far are places that no thing here has, whatever their lowest bits are, or those of their product with a width.
var far = []int64{
	least, least + 1, -1 << 62, -1 << 61, -1 << 60, -1 << 32, -1<<32 + 1, -256, -255, -8, -2, -1,
	1 << 31, 1 << 32, 1<<32 + 1, 1 << 48, 1<<60 - 1, 1 << 60, 1<<60 + 1, 1<<61 - 1, 1 << 61, 1<<61 + 1, 1<<62 - 1, 1 << 62, 1<<62 + 1, 3 << 61, most - 7, most - 1, most,
}

func number(i int64) api.Cell             { return api.Cell{Kind: api.Int, Int: i} }
func textCell(s string) api.Cell          { return api.Cell{Kind: api.Text, Text: s} }
func buffer(kind int, b ...byte) api.Cell { return api.Cell{Kind: kind, Bytes: b} }
func row(words ...uint64) api.Cell        { return api.Cell{Kind: api.Row, Words: words} }
func view(kind int, base uint64, from, n int) api.Cell {
	return api.Cell{Kind: kind, View: true, Base: base, From: from, Len: n}
}

// counted are n bytes that tell their places.
func counted(n int) []byte {
	b := make([]byte, n)
	for i := range b {
		b[i] = byte(17*i + 1)
	}
	return b
}

func newHeap(t *testing.T, units int) *heap.Heap {
	t.Helper()
	h, e := heap.New(units)
	if h == nil || e != api.OK {
		t.Fatalf("heap.New(%d) is %v, %d", units, h, e)
	}
	return h
}

func put(t *testing.T, h *heap.Heap, c api.Cell, roots ...uint64) uint64 {
	t.Helper()
	w, e := h.Put(c, roots)
	if e != api.OK {
		t.Fatalf("Put of a cell of the kind %d is %d", c.Kind, e)
	}
	return w
}

// fill puts cells that nothing will reach, until no unit is free.
func fill(t *testing.T, h *heap.Heap) {
	t.Helper()
	for needs(held(h)) < h.Room() {
		put(t, h, row(), words(held(h))...)
	}
}

// held are all cells of a heap, by word, with nil for each empty list.
func held(h *heap.Heap) map[uint64]api.Cell {
	all := map[uint64]api.Cell{}
	for w := range h.Cells() {
		c, _ := h.Get(w)
		all[w] = bare(c)
	}
	return all
}

// bare has nil for each empty list.
func bare(c api.Cell) api.Cell {
	if len(c.Bytes) == 0 {
		c.Bytes = nil
	}
	if len(c.Words) == 0 {
		c.Words = nil
	}
	return c
}

// reached are those of all that are reached from words.
func reached(all map[uint64]api.Cell, words ...uint64) map[uint64]api.Cell {
	found := map[uint64]api.Cell{}
	for len(words) > 0 {
		w := words[0]
		words = words[1:]
		c, there := all[w]
		if _, already := found[w]; there && !already {
			found[w] = c
			words = append(append(slices.Clone(words), c.Words...), c.Base)
		}
	}
	return found
}

func needs(cells map[uint64]api.Cell) int {
	sum := 0
	for _, c := range cells {
		sum += heap.Need(c)
	}
	return sum
}

func words(cells map[uint64]api.Cell) []uint64 { return slices.Sorted(maps.Keys(cells)) }

// wantHeld asks for just the cells of these words.
func wantHeld(t *testing.T, h *heap.Heap, keep ...uint64) {
	t.Helper()
	keep = slices.Compact(slices.Sorted(slices.Values(keep)))
	if got := words(held(h)); !slices.Equal(got, keep) {
		t.Fatalf("the heap holds %x; want %x", got, keep)
	}
}

// wantSame asks for the cells that were there ahead, as they were.
func wantSame(t *testing.T, h *heap.Heap, name string, ahead map[uint64]api.Cell) {
	t.Helper()
	if behind := held(h); !reflect.DeepEqual(behind, ahead) {
		t.Fatalf("behind %s the heap holds %v; want %v", name, behind, ahead)
	}
}

// maker is a call that makes a cell, and what it must do: the cell, or e, with keep as roots.
type maker struct {
	name string
	call func(roots []uint64) (uint64, api.Errno)
	cell api.Cell
	e    api.Errno
	keep []uint64
}

// newThing answers what New answered, if that, and what the heap holds behind it, is what it must be.
func newThing(t *testing.T, h *heap.Heap, kind int, n int64, roots ...uint64) (uint64, api.Errno) {
	t.Helper()
	m := maker{
		name: fmt.Sprintf("New(%d, %d)", kind, n),
		call: func(roots []uint64) (uint64, api.Errno) { return buf.New(h, kind, n, roots) },
	}
	switch {
	case !slices.Contains(things, kind):
		m.e = api.ErrKind
	case n < 0:
		m.e = api.ErrRange
	case exactNeed(kind, n).Cmp(big.NewInt(int64(h.Room()))) > 0:
		m.e = api.ErrMemory
	case kind == api.Row:
		m.cell = row(slices.Repeat([]uint64{nilWord}, int(n))...)
	default:
		m.cell = buffer(kind, make([]byte, int(n)*width(kind))...)
	}
	return makes(t, h, roots, m)
}

// exactNeed is 6.2's, without wrapping round.
func exactNeed(kind int, n int64) *big.Int {
	sum := new(big.Int).Mul(big.NewInt(n), big.NewInt(int64(width(kind))))
	sum.Add(sum, big.NewInt(7)).Div(sum, big.NewInt(8))
	return sum.Add(sum, big.NewInt(1))
}

// newView answers what View answered, if that, and what the heap holds behind it, is what it must be.
func newView(t *testing.T, h *heap.Heap, w uint64, kind int, from, n int64, roots ...uint64) (uint64, api.Errno) {
	t.Helper()
	m := maker{
		name: fmt.Sprintf("View(%x, %d, %d, %d)", w, kind, from, n),
		call: func(roots []uint64) (uint64, api.Errno) { return buf.View(h, w, kind, from, n, roots) },
		keep: []uint64{w},
	}
	m.cell, m.e = viewOf(h, w, kind, from, n)
	return makes(t, h, roots, m)
}

// viewOf says what 9.3 says.
func viewOf(h *heap.Heap, w uint64, kind int, from, n int64) (api.Cell, api.Errno) {
	v, e := value.Unbox(h, w)
	if e != api.OK {
		return api.Cell{}, e
	}
	if !slices.Contains(buffers, v.Kind) {
		return api.Cell{}, api.ErrType
	}
	if !slices.Contains(buffers, kind) {
		return api.Cell{}, api.ErrKind
	}
	if from < 0 || n < 0 {
		return api.Cell{}, api.ErrRange
	}
	c, _ := h.Get(w)
	base, size := w, len(c.Bytes)
	if c.View {
		base, size = c.Base, c.Len*width(c.Kind)
	}
	wide := big.NewInt(int64(width(kind)))
	at := new(big.Int).Add(big.NewInt(int64(c.From)), big.NewInt(from))
	if new(big.Int).Mod(at, wide).Sign() != 0 {
		return api.Cell{}, api.ErrAlign
	}
	end := new(big.Int).Mul(big.NewInt(n), wide)
	if end.Add(end, big.NewInt(from)).Cmp(big.NewInt(int64(size))) > 0 {
		return api.Cell{}, api.ErrIndex
	}
	return view(kind, base, int(at.Int64()), int(n)), api.OK
}

// makes does what m says, with roots that have spare room, in which the handle of each cell of the heap stands.
func makes(t *testing.T, h *heap.Heap, roots []uint64, m maker) (uint64, api.Errno) {
	t.Helper()
	ahead := held(h)
	list := append(slices.Clone(roots), words(ahead)...)
	list = append(list, nilWord, nilWord, nilWord)
	was := slices.Clone(list)
	w, e := m.call(list[:len(roots)])
	if !slices.Equal(list, was) {
		t.Fatalf("%s has changed the roots, or what lies behind them", m.name)
	}
	keep := reached(ahead, append(slices.Clone(roots), m.keep...)...)
	if m.e == api.OK && needs(keep)+heap.Need(m.cell) > h.Room() {
		m.e, ahead = api.ErrMemory, keep
	}
	if e != m.e || e != api.OK && w != 0 {
		t.Fatalf("%s is %x, %d; want %d", m.name, w, e, m.e)
	}
	if e == api.OK {
		wantMade(t, m, w, ahead, keep, held(h))
	} else {
		wantSame(t, h, m.name, ahead)
	}
	return w, e
}

// wantMade asks for the new cell, all that the roots reach, and nothing that was not there.
func wantMade(t *testing.T, m maker, w uint64, ahead, keep, behind map[uint64]api.Cell) {
	t.Helper()
	if got, there := behind[w]; !there || !reflect.DeepEqual(got, bare(m.cell)) {
		t.Fatalf("%s has made %x, %v; want %v", m.name, w, got, m.cell)
	}
	if _, taken := keep[w]; taken {
		t.Fatalf("%s has given the word %x of a cell that is reached", m.name, w)
	}
	for x, c := range keep {
		if got, there := behind[x]; !there || !reflect.DeepEqual(got, c) {
			t.Fatalf("behind %s the cell %x, that was reached, is not as it was", m.name, x)
		}
	}
	for x, c := range behind {
		if was, there := ahead[x]; x != w && (!there || !reflect.DeepEqual(was, c)) {
			t.Fatalf("behind %s there is a cell %x that was not there", m.name, x)
		}
	}
}

// bytesIn are those of a buffer or a view, where they stand in all.
func bytesIn(all map[uint64]api.Cell, w uint64) []byte {
	c := all[w]
	if c.View {
		return all[c.Base].Bytes[c.From : c.From+c.Len*width(c.Kind)]
	}
	return c.Bytes
}

// lenIn says what 9.4 says.
func lenIn(h *heap.Heap, all map[uint64]api.Cell, w uint64) (int, api.Errno) {
	v, e := value.Unbox(h, w)
	switch {
	case e != api.OK:
		return 0, e
	case !slices.Contains(things, v.Kind):
		return 0, api.ErrType
	case v.Kind == api.Row:
		return len(all[w].Words), api.OK
	}
	return len(bytesIn(all, w)) / width(v.Kind), api.OK
}

// placeIn says what 9.5 and 9.6 say of a thing and a place in it.
func placeIn(h *heap.Heap, all map[uint64]api.Cell, w uint64, i int64) api.Errno {
	n, e := lenIn(h, all, w)
	if e == api.OK && (i < 0 || i >= int64(n)) {
		return api.ErrIndex
	}
	return e
}

// loadIn says what 9.5 says.
func loadIn(h *heap.Heap, all map[uint64]api.Cell, w uint64, i int64) (uint64, api.Errno) {
	if e := placeIn(h, all, w, i); e != api.OK {
		return 0, e
	}
	c := all[w]
	if c.Kind == api.Row {
		return c.Words[i], api.OK
	}
	b := bytesIn(all, w)[int(i)*width(c.Kind):]
	switch c.Kind {
	case api.F64:
		return canonical(math.Float64frombits(binary.LittleEndian.Uint64(b))), api.OK
	case api.F32:
		return canonical(float64(math.Float32frombits(binary.LittleEndian.Uint32(b)))), api.OK
	case api.I16:
		return smallWord(int64(int16(binary.LittleEndian.Uint16(b)))), api.OK
	}
	return smallWord(int64(b[0])), api.OK
}

func canonical(x float64) uint64 {
	if math.IsNaN(x) {
		return 0x7ff8000000000000
	}
	return math.Float64bits(x)
}

// storeIn says what 9.6 says, and does it in all.
func storeIn(h *heap.Heap, all map[uint64]api.Cell, w uint64, i int64, x uint64) api.Errno {
	if e := placeIn(h, all, w, i); e != api.OK {
		return e
	}
	v, e := value.Unbox(h, x)
	if e != api.OK {
		return e
	}
	c := all[w]
	if c.Kind == api.Row {
		c.Words[i] = x
		return api.OK
	}
	b := bytesIn(all, w)[int(i)*width(c.Kind):]
	if c.Kind == api.F64 || c.Kind == api.F32 {
		return storeDouble(b, c.Kind, v)
	}
	return storeWhole(b, c.Kind, v)
}

func storeDouble(b []byte, kind int, v api.Value) api.Errno {
	var x float64
	switch v.Kind {
	case api.Int:
		x = float64(v.Int)
	case api.Float:
		x = math.Float64frombits(v.Bits)
	default:
		return api.ErrType
	}
	switch {
	case kind == api.F64:
		binary.LittleEndian.PutUint64(b, canonical(x))
	case math.IsNaN(x):
		binary.LittleEndian.PutUint32(b, 0x7fc00000)
	default:
		binary.LittleEndian.PutUint32(b, math.Float32bits(float32(x)))
	}
	return api.OK
}

func storeWhole(b []byte, kind int, v api.Value) api.Errno {
	switch {
	case v.Kind != api.Int:
		return api.ErrType
	case kind == api.I16 && (v.Int < -32768 || v.Int > 32767), kind == api.U8 && (v.Int < 0 || v.Int > 255):
		return api.ErrRange
	case kind == api.I16:
		binary.LittleEndian.PutUint16(b, uint16(v.Int))
	default:
		b[0] = byte(v.Int)
	}
	return api.OK
}

// length answers what Len answered, if it is what it must be, and nothing has changed.
func length(t *testing.T, h *heap.Heap, w uint64) (int, api.Errno) {
	t.Helper()
	all := held(h)
	n, e := buf.Len(h, w)
	if want, f := lenIn(h, all, w); n != want || e != f {
		t.Fatalf("Len(%x) is %d, %d; want %d, %d", w, n, e, want, f)
	}
	wantSame(t, h, "Len", all)
	return n, e
}

// load answers what Load answered, if it is what it must be, and nothing has changed.
func load(t *testing.T, h *heap.Heap, w uint64, i int64) (uint64, api.Errno) {
	t.Helper()
	all := held(h)
	x, e := buf.Load(h, w, i)
	if want, f := loadIn(h, all, w, i); x != want || e != f {
		t.Fatalf("Load(%x, %d) is %x, %d; want %x, %d", w, i, x, e, want, f)
	}
	wantSame(t, h, "Load", all)
	return x, e
}

// store answers what Store answered, if it is what it must be, and just what it must write has changed.
func store(t *testing.T, h *heap.Heap, w uint64, i int64, x uint64) api.Errno {
	t.Helper()
	all := held(h)
	want := storeIn(h, all, w, i, x)
	e := buf.Store(h, w, i, x)
	if e != want {
		t.Fatalf("Store(%x, %d, %x) is %d; want %d", w, i, x, e, want)
	}
	wantSame(t, h, fmt.Sprintf("Store(%x, %d, %x)", w, i, x), all)
	return e
}

func wantNew(t *testing.T, h *heap.Heap, kind int, n int64, roots ...uint64) uint64 {
	t.Helper()
	w, e := newThing(t, h, kind, n, roots...)
	if e != api.OK {
		t.Fatalf("New(%d, %d) is %d", kind, n, e)
	}
	return w
}

func wantNoNew(t *testing.T, h *heap.Heap, kind int, n int64, want api.Errno, roots ...uint64) {
	t.Helper()
	if w, e := newThing(t, h, kind, n, roots...); w != 0 || e != want {
		t.Fatalf("New(%d, %d) is %x, %d; want %d", kind, n, w, e, want)
	}
}

// wantView asks for a view with this base and From.
func wantView(t *testing.T, h *heap.Heap, w uint64, kind int, from, n int64, base uint64, at int, roots ...uint64) uint64 {
	t.Helper()
	x, e := newView(t, h, w, kind, from, n, roots...)
	if c, _ := h.Get(x); e != api.OK || !reflect.DeepEqual(c, view(kind, base, at, int(n))) {
		t.Fatalf("View(%x, %d, %d, %d) is %v, %d; want the base %x, From %d", w, kind, from, n, c, e, base, at)
	}
	return x
}

func wantNoView(t *testing.T, h *heap.Heap, w uint64, kind int, from, n int64, want api.Errno, roots ...uint64) {
	t.Helper()
	if x, e := newView(t, h, w, kind, from, n, roots...); x != 0 || e != want {
		t.Fatalf("View(%x, %d, %d, %d) is %x, %d; want %d", w, kind, from, n, x, e, want)
	}
}

func wantLen(t *testing.T, h *heap.Heap, w uint64, want int) {
	t.Helper()
	if n, e := length(t, h, w); n != want || e != api.OK {
		t.Fatalf("Len(%x) is %d, %d; want %d", w, n, e, want)
	}
}

func wantNoLen(t *testing.T, h *heap.Heap, w uint64, want api.Errno) {
	t.Helper()
	if n, e := length(t, h, w); n != 0 || e != want {
		t.Fatalf("Len(%x) is %d, %d; want %d", w, n, e, want)
	}
}

func wantLoad(t *testing.T, h *heap.Heap, w uint64, i int64, want uint64) {
	t.Helper()
	if x, e := load(t, h, w, i); x != want || e != api.OK {
		t.Fatalf("Load(%x, %d) is %x, %d; want %x", w, i, x, e, want)
	}
}

func wantNoLoad(t *testing.T, h *heap.Heap, w uint64, i int64, want api.Errno) {
	t.Helper()
	if x, e := load(t, h, w, i); x != 0 || e != want {
		t.Fatalf("Load(%x, %d) is %x, %d; want %d", w, i, x, e, want)
	}
}

func wantStore(t *testing.T, h *heap.Heap, w uint64, i int64, x uint64) {
	t.Helper()
	if e := store(t, h, w, i, x); e != api.OK {
		t.Fatalf("Store(%x, %d, %x) is %d", w, i, x, e)
	}
}

func wantNoStore(t *testing.T, h *heap.Heap, w uint64, i int64, x uint64, want api.Errno) {
	t.Helper()
	if e := store(t, h, w, i, x); e != want {
		t.Fatalf("Store(%x, %d, %x) is %d; want %d", w, i, x, e, want)
	}
}

// wantBytes asks for all bytes of a buffer.
func wantBytes(t *testing.T, h *heap.Heap, w uint64, want ...byte) {
	t.Helper()
	if c, e := h.Get(w); e != api.OK || !slices.Equal(c.Bytes, want) {
		t.Fatalf("the bytes of %x are %x, %d; want %x", w, c.Bytes, e, want)
	}
}

// sample is a heap with a cell of each sort, and one handle of a cell that is gone.
type sample struct {
	h     *heap.Heap
	cells map[uint64]api.Cell
	gone  uint64
}

func newSample(t *testing.T, units int) *sample {
	t.Helper()
	s := &sample{h: newHeap(t, units), cells: map[uint64]api.Cell{}}
	for _, i := range []int64{0, 5, 1 << 47, math.MinInt64} {
		s.put(t, number(i))
	}
	for _, x := range []string{"", "ab", "hello", "hello!", "many bytes of text\x00"} {
		s.put(t, textCell(x))
	}
	for _, kind := range buffers {
		base := s.put(t, buffer(kind, counted(16)...))
		s.put(t, buffer(kind))
		for _, of := range buffers {
			s.put(t, view(of, base, 8, 1))
		}
		s.put(t, view(kind, base, 0, 0))
	}
	r := s.put(t, row())
	s.put(t, row(r, nilWord, shortWord("ab")))
	s.gone = put(t, s.h, buffer(api.U8, counted(16)...), words(s.cells)...)
	s.h.Collect(words(s.cells))
	return s
}

func (s *sample) put(t *testing.T, c api.Cell) uint64 {
	t.Helper()
	w := put(t, s.h, c, words(s.cells)...)
	s.cells[w] = held(s.h)[w]
	return w
}

// of are the words of the cells that are of a kind that is asked for.
func (s *sample) of(asked func(c api.Cell) bool) []uint64 {
	return slices.DeleteFunc(words(s.cells), func(w uint64) bool { return !asked(s.cells[w]) })
}

func isThing(c api.Cell) bool { return slices.Contains(things, c.Kind) }

// chance is numbers that look like chance, the same each time.
type chance uint64

func (c *chance) word() uint64 {
	*c += 0x9e3779b97f4a7c15
	z := uint64(*c)
	z = (z ^ z>>30) * 0xbf58476d1ce4e5b9
	z = (z ^ z>>27) * 0x94d049bb133111eb
	return z ^ z>>31
}

func (c *chance) below(n int) int { return int(c.word() % uint64(n)) }
