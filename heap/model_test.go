package heap_test

import (
	"fmt"
	"maps"
	"math"
	"math/big"
	"reflect"
	"slices"
	"strings"
	"testing"

	"casket/api"
	"casket/heap"
	"casket/word"
)

const (
	least = math.MinInt
	most  = math.MaxInt

	stray = 0x7ff8000000000001
)

// widths are those of elements.
var widths = map[int]int{api.F64: 8, api.F32: 4, api.I16: 2, api.U8: 1}

// kinds are those of buffers.
var kinds = []int{api.F64, api.F32, api.I16, api.U8}

// strays are words of no value, of each sort that there is.
var strays = []uint64{
	stray, 0x7ff0000000000001, 0xfff0000000000001, 0x7fffffffffffffff, 0xfff7ffffffffffff, 0xfff8000000000003,
	0xfffa060000000000, 0xfffa010000006261, 0xfffc000000000000, 0xffffffffffffffff,
}

// plains are words of values without a handle, of each class.
var plains = []uint64{0, 1, 1 << 63, 0x3ff0000000000000, 0x7ff0000000000000, api.Canon, small(0), small(-1), small(1 << 40), word.FromNil(), word.FromBool(false), word.FromBool(true), short(""), short("abcde")}

func small(i int64) uint64 {
	w, _ := word.FromInt(i)
	return w
}

func short(s string) uint64 {
	w, _ := word.FromText(s)
	return w
}

func handle(n uint64) uint64 {
	w, _ := word.FromHandle(n)
	return w
}

// nobodys are words with handles that no small heap has given.
var nobodys = []uint64{handle(1 << 20), handle(1 << 31), handle(1 << 32), handle(1<<48 - 1)}

func number(i int64) api.Cell             { return api.Cell{Kind: api.Int, Int: i} }
func text(s string) api.Cell              { return api.Cell{Kind: api.Text, Text: s} }
func buffer(kind int, b ...byte) api.Cell { return api.Cell{Kind: kind, Bytes: b} }
func row(words ...uint64) api.Cell        { return api.Cell{Kind: api.Row, Words: words} }
func view(kind int, base uint64, from, n int) api.Cell {
	return api.Cell{Kind: kind, View: true, Base: base, From: from, Len: n}
}

// blank are n bytes.
func blank(n int) []byte { return make([]byte, n) }

func newHeap(t *testing.T, units int) *heap.Heap {
	t.Helper()
	h, e := heap.New(units)
	if h == nil || e != api.OK {
		t.Fatalf("New(%d) is %v, %d", units, h, e)
	}
	return h
}

func wantPut(t *testing.T, h *heap.Heap, c api.Cell, roots ...uint64) uint64 {
	t.Helper()
	w, e := h.Put(c, roots)
	if e != api.OK || word.Class(w) != api.ClassHandle {
		t.Fatalf("Put(%s) is %x, %d", tell(c), w, e)
	}
	return w
}

func wantNoPut(t *testing.T, h *heap.Heap, e api.Errno, c api.Cell, roots ...uint64) {
	t.Helper()
	if w, told := h.Put(c, roots); w != 0 || told != e {
		t.Fatalf("Put(%s) is %x, %d; want %d", tell(c), w, told, e)
	}
}

func wantGet(t *testing.T, h *heap.Heap, w uint64, want api.Cell) {
	t.Helper()
	if got, e := h.Get(w); e != api.OK || !same(got, want) {
		t.Fatalf("Get(%x) is %s, %d; want %s", w, tell(got), e, tell(want))
	}
}

func wantNoGet(t *testing.T, h *heap.Heap, w uint64) {
	t.Helper()
	if got, e := h.Get(w); e != api.ErrHandle || !reflect.DeepEqual(got, api.Cell{}) {
		t.Fatalf("Get(%x) is %s, %d; want ErrHandle", w, tell(got), e)
	}
}

func wantSet(t *testing.T, h *heap.Heap, w uint64, i int, x uint64, e api.Errno) {
	t.Helper()
	if told := h.Set(w, i, x); told != e {
		t.Fatalf("Set(%x, %d, %x) is %d; want %d", w, i, x, told, e)
	}
}

func wantRead(t *testing.T, h *heap.Heap, w uint64, off, width int, want uint64, e api.Errno) {
	t.Helper()
	if got, told := h.Read(w, off, width); got != want || told != e {
		t.Fatalf("Read(%x, %d, %d) is %x, %d; want %x, %d", w, off, width, got, told, want, e)
	}
}

func wantWrite(t *testing.T, h *heap.Heap, w uint64, off, width int, x uint64, e api.Errno) {
	t.Helper()
	if told := h.Write(w, off, width, x); told != e {
		t.Fatalf("Write(%x, %d, %d, %x) is %d; want %d", w, off, width, x, told, e)
	}
}

func wantReach(t *testing.T, h *heap.Heap, want int, roots ...uint64) {
	t.Helper()
	if got := h.Reach(roots); got != want {
		t.Fatalf("Reach(%x) is %d; want %d", roots, got, want)
	}
}

// wantHeld asks for just these cells.
func wantHeld(t *testing.T, h *heap.Heap, want ...uint64) {
	t.Helper()
	got := []uint64{}
	for w := range h.Cells() {
		got = append(got, w)
	}
	slices.Sort(want)
	if !slices.Equal(got, want) {
		t.Fatalf("the heap holds %x; want %x", got, want)
	}
}

// tell shortens a cell that has too much to be read.
func tell(c api.Cell) string {
	if len(c.Text)+len(c.Bytes)+len(c.Words) > 100 {
		return fmt.Sprintf("{a cell of the kind %d with %d, %d, %d}", c.Kind, len(c.Text), len(c.Bytes), len(c.Words))
	}
	return fmt.Sprintf("%#v", c)
}

// clone shares nothing with c.
func clone(c api.Cell) api.Cell {
	c.Bytes = append([]byte{}, c.Bytes...)
	c.Words = append([]uint64{}, c.Words...)
	c.Text = strings.Clone(c.Text)
	return c
}

// same takes nil and empty lists for one.
func same(a, b api.Cell) bool { return reflect.DeepEqual(clone(a), clone(b)) }

// model says of a heap what it must hold.
type model struct {
	t     *testing.T
	h     *heap.Heap
	units int
	have  map[uint64]api.Cell // by word
}

func newModel(t *testing.T, units int) *model {
	return &model{t: t, h: newHeap(t, units), units: units, have: map[uint64]api.Cell{}}
}

// words are those of the cells, rising.
func (m *model) words() []uint64 { return slices.Sorted(maps.Keys(m.have)) }

// needOf says what 6.2 says of right cells.
func needOf(c api.Cell) int {
	if c.View {
		return 1
	}
	if c.Kind == api.Int {
		return 2
	}
	n := len(c.Text) + len(c.Bytes)
	need := 1 + n/8 + len(c.Words)
	if n%8 > 0 {
		need++
	}
	return need
}

func (m *model) needs(cells map[uint64]api.Cell) int {
	sum := 0
	for _, c := range cells {
		sum += needOf(c)
	}
	return sum
}

// reach adds to found what is reached from words.
func (m *model) reach(found map[uint64]api.Cell, words ...uint64) map[uint64]api.Cell {
	for _, w := range words {
		c, there := m.have[w]
		if _, already := found[w]; !there || already {
			continue
		}
		found[w] = c
		m.reach(found, c.Words...)
		m.reach(found, c.Base)
	}
	return found
}

// right says what 6.1 says.
func (m *model) right(c api.Cell) bool {
	width := widths[c.Kind]
	bare := api.Cell{Kind: c.Kind}
	ok := false
	switch {
	case c.View:
		bare.View, bare.Base, bare.From, bare.Len = true, c.Base, c.From, c.Len
		ok = width > 0 && m.rightView(c)
	case c.Kind == api.Int:
		bare.Int, ok = c.Int, true
	case c.Kind == api.Text:
		bare.Text, ok = c.Text, len(c.Text) <= 1<<23
	case width > 0:
		bare.Bytes, ok = c.Bytes, len(c.Bytes) <= 1<<23 && len(c.Bytes)%width == 0
	case c.Kind == api.Row:
		bare.Words, ok = c.Words, len(c.Words) <= 1<<20
		for _, w := range c.Words {
			ok = ok && m.isValue(w)
		}
	}
	return ok && same(c, bare)
}

func (m *model) rightView(c api.Cell) bool {
	base, there := m.have[c.Base]
	if !there || base.View || widths[base.Kind] == 0 || c.From < 0 || c.Len < 0 || c.From%widths[c.Kind] != 0 {
		return false
	}
	end := big.NewInt(int64(c.Len))
	end.Mul(end, big.NewInt(int64(widths[c.Kind])))
	end.Add(end, big.NewInt(int64(c.From)))
	return end.Cmp(big.NewInt(int64(len(base.Bytes)))) <= 0
}

func (m *model) isValue(w uint64) bool {
	if _, there := m.have[w]; there {
		return true
	}
	class := word.Class(w)
	return class != api.ClassStray && class != api.ClassHandle
}

// put answers what Put answered, if that is what it must.
func (m *model) put(c api.Cell, roots ...uint64) (uint64, api.Errno) {
	m.t.Helper()
	in, from := clone(c), slices.Clone(roots)
	w, e := m.h.Put(c, roots)
	if !same(c, in) || !slices.Equal(roots, from) {
		m.t.Fatalf("Put has changed what was handed in: %s", tell(in))
	}
	want := api.OK
	reached := m.reach(map[uint64]api.Cell{}, append(append(from, c.Words...), c.Base)...)
	if !m.right(c) {
		want = api.ErrArg
	} else if needOf(c)+m.needs(reached) > m.units {
		want = api.ErrMemory
		m.have = reached
	}
	if e != want || e != api.OK && w != 0 {
		m.t.Fatalf("Put(%s) is %x, %d; want %d", tell(c), w, e, want)
	}
	if e == api.OK {
		m.added(w, in, reached)
	}
	m.look()
	return w, e
}

// added takes over which cells are gone: it must be none that is reached.
func (m *model) added(w uint64, c api.Cell, reached map[uint64]api.Cell) {
	m.t.Helper()
	if _, taken := reached[w]; taken || word.Class(w) != api.ClassHandle {
		m.t.Fatalf("Put has given the word %x", w)
	}
	had := m.have
	m.have = map[uint64]api.Cell{}
	for x := range m.h.Cells() {
		old, there := had[x]
		if !there && x != w {
			m.t.Fatalf("behind Put there is a cell %x that nobody put", x)
		}
		m.have[x] = old
	}
	if _, there := m.have[w]; !there {
		m.t.Fatalf("the cell %x that was put is not there", w)
	}
	m.have[w] = c
	for x := range reached {
		if _, there := m.have[x]; !there {
			m.t.Fatalf("the cell %x was reached, and is gone", x)
		}
	}
	if n := m.needs(m.have); n > m.units {
		m.t.Fatalf("%d units in a heap of %d", n, m.units)
	}
}

func (m *model) collect(roots ...uint64) {
	m.t.Helper()
	m.have = m.reach(map[uint64]api.Cell{}, roots...)
	m.h.Collect(roots)
	m.look()
	wantReach(m.t, m.h, m.needs(m.have), roots...)
}

func (m *model) set(w uint64, i int, x uint64) {
	m.t.Helper()
	want := api.OK
	c, there := m.have[w]
	switch {
	case !there:
		want = api.ErrHandle
	case c.Kind != api.Row:
		want = api.ErrKind
	case i < 0 || i >= len(c.Words):
		want = api.ErrIndex
	case !m.isValue(x):
		want = api.ErrStray
	default:
		c.Words[i] = x
	}
	wantSet(m.t, m.h, w, i, x, want)
}

// part is which bytes Read and Write are of.
func (m *model) part(w uint64, off, width int) ([]byte, api.Errno) {
	c, there := m.have[w]
	if !there {
		return nil, api.ErrHandle
	}
	if widths[c.Kind] == 0 || !slices.Contains([]int{1, 2, 4, 8}, width) {
		return nil, api.ErrKind
	}
	b := c.Bytes
	if c.View {
		b = m.have[c.Base].Bytes[c.From:][:c.Len*widths[c.Kind]]
	}
	if off < 0 || off > len(b) || width > len(b)-off {
		return nil, api.ErrIndex
	}
	if (c.From+off)%width != 0 {
		return nil, api.ErrAlign
	}
	return b[off : off+width], api.OK
}

func (m *model) read(w uint64, off, width int) {
	m.t.Helper()
	b, e := m.part(w, off, width)
	want := uint64(0)
	for i := range b {
		want += uint64(b[i]) << (8 * i)
	}
	wantRead(m.t, m.h, w, off, width, want, e)
}

func (m *model) write(w uint64, off, width int, x uint64) {
	m.t.Helper()
	b, e := m.part(w, off, width)
	wantWrite(m.t, m.h, w, off, width, x, e)
	for i := range b {
		b[i] = byte(x >> (8 * i))
	}
}

// look holds all that the heap tells against the model.
func (m *model) look() {
	m.t.Helper()
	wantHeld(m.t, m.h, m.words()...)
	for w, kind := range m.h.Cells() {
		if kind != m.have[w].Kind {
			m.t.Fatalf("the cell %x is told with the kind %d; want %d", w, kind, m.have[w].Kind)
		}
	}
	for w, c := range m.have {
		wantGet(m.t, m.h, w, c)
		wantLook(m.t, m.h, w, c)
	}
	if m.h.Room() != m.units {
		m.t.Fatalf("Room is %d; want %d", m.h.Room(), m.units)
	}
}

// chance answers numbers below n that look mixed, the same in every run.
type chance uint64

func (c *chance) below(n int) int {
	*c = *c*6364136223846793005 + 1442695040888963407
	return int(*c>>33) % n
}

func (c *chance) word() uint64 {
	return uint64(c.below(1<<22))<<42 ^ uint64(c.below(1<<22))<<21 ^ uint64(c.below(1<<22))
}

// mixed are n bytes, others for each seed.
func mixed(seed, n int) []byte {
	c := chance(seed)
	b := blank(n)
	for i := range b {
		b[i] = byte(c.below(256))
	}
	return b
}

// pick is one of them, or 0.
func (c *chance) pick(words []uint64) uint64 {
	if len(words) == 0 {
		return 0
	}
	return words[c.below(len(words))]
}
