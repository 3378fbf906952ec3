package image_test

import (
	"bytes"
	"math/big"
	"testing"

	"casket/api"
	"casket/check"
	"casket/image"
	"casket/word"
)

// A model of Load: it reads bytes by the chapter's words, answers what is wrong first, and tells all parts on the way. It has numbers without bounds, errors that are asked for behind each part, and a list of its own in the place of calls within calls.

// Sorts of parts.
const (
	aByte   = 'b'
	aShort  = 's'
	anEight = 'e'
	aRun    = 'r'
)

// piece is a part of a machine's bytes that can be cut.
type piece struct {
	sort  byte
	at, n int
}

// modelWord is a word: of a cell, or itself.
type modelWord struct {
	leads bool
	cell  int64
	word  uint64
}

type modelCell struct {
	kind         int
	view         bool
	bytes        []byte // of a buffer, a string or a number
	words        []modelWord
	base         int64
	from, length *big.Int
}

type model struct {
	b       []byte
	at      int
	pieces  []piece
	code    api.Errno // of what is wrong
	place   int
	source  string
	units   int64
	cells   []modelCell
	count   *big.Int
	globals []modelWord
	held    []modelWord
	need    int // of all cells together
}

// modelled reads all of it.
func modelled(b []byte) *model {
	m := &model{b: b, count: new(big.Int)}
	m.all()
	return m
}

func (m *model) wrong(code api.Errno, at int) {
	if m.code == api.OK {
		m.code, m.place = code, at
	}
}

func (m *model) ok() bool { return m.code == api.OK }

func (m *model) take(sort byte, n int) []byte {
	if !m.ok() {
		return make([]byte, n)
	}
	if len(m.b)-m.at < n {
		m.wrong(api.ErrCut, m.at)
		return make([]byte, n)
	}
	m.pieces = append(m.pieces, piece{sort, m.at, n})
	m.at += n
	return m.b[m.at-n : m.at]
}

func (m *model) byte() int { return int(m.take(aByte, 1)[0]) }

func (m *model) eight() uint64 {
	x := new(big.Int)
	for i, b := range m.take(anEight, 8) {
		x.Add(x, new(big.Int).Lsh(big.NewInt(int64(b)), uint(8*i)))
	}
	return x.Uint64()
}

// short answers a number of whatever size, if it is a Short at all.
func (m *model) short() *big.Int {
	n := 1
	for at := m.at; at < len(m.b) && m.b[at] >= 128; at++ {
		n++
	}
	at := m.at
	x, places := new(big.Int), new(big.Int).SetInt64(1)
	for _, b := range m.take(aShort, n) {
		x.Add(x, new(big.Int).Mul(places, big.NewInt(int64(b&127))))
		places.Lsh(places, 7)
	}
	needed := max(1, (x.BitLen()+6)/7)
	if m.ok() && (x.BitLen() > 63 || needed != n) {
		m.wrong(api.ErrForm, at)
	}
	if !m.ok() {
		return new(big.Int)
	}
	return x
}

// upTo is a Short that is no greater.
func (m *model) upTo(most *big.Int, code api.Errno) int64 {
	at := m.at
	x := m.short()
	if m.ok() && x.Cmp(most) > 0 {
		m.wrong(code, at)
	}
	if !m.ok() {
		return 0
	}
	return x.Int64()
}

// run is as many bytes as a Short says.
func (m *model) run() []byte {
	n := m.short()
	if !m.ok() {
		return nil
	}
	if n.Cmp(big.NewInt(int64(len(m.b)-m.at))) > 0 {
		m.wrong(api.ErrCut, m.at)
		return nil
	}
	if n.Sign() == 0 {
		return nil
	}
	return m.take(aRun, int(n.Int64()))
}

func (m *model) all() {
	if m.byte() != 67 {
		m.wrong(api.ErrKind, 0)
	}
	n := m.short()
	from := m.at
	if m.ok() && n.Cmp(big.NewInt(api.MaxSource)) > 0 {
		m.wrong(api.ErrLong, from)
	}
	if !m.ok() {
		return
	}
	m.source = string(m.take(aRun, int(n.Int64())))
	if !m.ok() {
		return
	}
	known := factsOf(m.source)
	if known.fault.Code != api.OK {
		m.wrong(known.fault.Code, from+known.fault.At)
	}
	m.units = m.upTo(big.NewInt(api.MaxUnits), api.ErrArg)
	m.count = m.short()
	for i := int64(0); m.ok() && i < m.count.Int64(); i++ {
		m.cells = append(m.cells, m.cell())
	}
	for range known.globals {
		m.globals = append(m.globals, m.word())
	}
	m.things()
	for range known.sites {
		m.site()
	}
	if m.ok() && m.at < len(m.b) {
		m.wrong(api.ErrTail, m.at)
	}
	if m.ok() {
		m.together()
	}
}

// facts are what the rest of the bytes hangs on of a source.
type facts struct {
	src            string
	fault          api.Fault
	globals, sites int
}

// last are those of the source that was asked for last: mostly it is asked for again.
var last facts

func factsOf(src string) facts {
	if last.src != src || src == "" {
		l, fault := check.Load(src)
		last = facts{src: src, fault: fault, sites: len(check.Sites(l))}
		for _, node := range l {
			if node.Kind == api.NodeGlobal {
				last.globals++
			}
		}
	}
	return last
}

func (m *model) cell() modelCell {
	at := m.at
	first := m.byte()
	c := modelCell{kind: first}
	if first >= 32 {
		c.kind, c.view = first-32, true
	}
	switch first {
	case api.Int:
		m.eight()
	case api.Text, api.F64, api.F32, api.I16, api.U8:
		c.bytes = m.run()
	case 32 + api.F64, 32 + api.F32, 32 + api.I16, 32 + api.U8:
		c.base = m.upTo(new(big.Int).Sub(m.count, big.NewInt(1)), api.ErrCell)
		c.from = m.short()
		c.length = m.short()
	case api.Row:
		n := m.short()
		for i := int64(0); m.ok() && i < n.Int64(); i++ {
			c.words = append(c.words, m.word())
		}
	default:
		m.wrong(api.ErrForm, at)
	}
	return c
}

func (m *model) word() modelWord {
	at := m.at
	switch m.byte() {
	case 0:
		w := m.eight()
		if class := word.Class(w); class == api.ClassStray || class == api.ClassHandle {
			m.wrong(api.ErrStray, at)
		}
		return modelWord{word: w}
	case 1:
		return modelWord{leads: true, cell: m.upTo(new(big.Int).Sub(m.count, big.NewInt(1)), api.ErrCell)}
	}
	m.wrong(api.ErrForm, at)
	return modelWord{}
}

func (m *model) things() {
	next := m.upTo(big.NewInt(1<<31-1), api.ErrRef)
	n := m.short()
	last := int64(-1)
	for i := int64(0); m.ok() && i < n.Int64(); i++ {
		at := m.at
		ref := m.short()
		if m.ok() && (ref.Cmp(big.NewInt(last)) <= 0 || ref.Cmp(big.NewInt(next)) >= 0) {
			m.wrong(api.ErrRef, at)
		}
		last = ref.Int64()
		at = m.at
		w := m.word()
		if m.ok() && (!w.leads || m.cells[w.cell].kind == api.Int || m.cells[w.cell].kind == api.Text) {
			m.wrong(api.ErrRef, at)
		}
		m.held = append(m.held, w)
	}
}

func (m *model) site() {
	form := func() int {
		at := m.at
		x := m.byte()
		if x > 2 {
			m.wrong(api.ErrForm, at)
		}
		return x
	}
	form()
	most := new(big.Int).Lsh(big.NewInt(1), 62)
	m.upTo(most, api.ErrForm)
	m.upTo(most, api.ErrForm)
	m.upTo(big.NewInt(1<<31-1), api.ErrForm)
	kind := form()
	at := m.at
	length := m.short()
	if m.ok() && (length.Cmp(big.NewInt(api.WarmUp)) > 0 || (kind == 0) != (length.Sign() == 0)) {
		m.wrong(api.ErrForm, at)
	}
}

// together is what can be wrong with all of it.
func (m *model) together() {
	for _, c := range m.cells {
		if !m.right(c) {
			m.wrong(api.ErrCell, 0)
		}
		n := len(c.bytes)
		if c.kind == api.Int {
			n = 8
		}
		m.need += 1 + (n+7)/8 + len(c.words)
	}
	if !m.inOrder() {
		m.wrong(api.ErrCell, 0)
	}
	if int64(m.need) > m.units {
		m.wrong(api.ErrMemory, 0)
	}
}

var modelWidths = map[int]int64{api.F64: 8, api.F32: 4, api.I16: 2, api.U8: 1}

func (m *model) right(c modelCell) bool {
	width := big.NewInt(modelWidths[c.kind])
	switch {
	case c.view:
		base := m.cells[c.base]
		if base.view || modelWidths[base.kind] == 0 {
			return false
		}
		end := new(big.Int).Mul(c.length, width)
		end.Add(end, c.from)
		return new(big.Int).Rem(c.from, width).Sign() == 0 && end.Cmp(big.NewInt(int64(len(base.bytes)))) <= 0
	case width.Sign() > 0:
		return len(c.bytes) <= api.MaxBytes && int64(len(c.bytes))%width.Int64() == 0
	}
	return len(c.bytes) <= api.MaxBytes && len(c.words) <= api.MaxUnits
}

// inOrder goes through what is to be come to with a list, the next one last.
func (m *model) inOrder() bool {
	var open []int64
	push := func(words []modelWord) {
		for i := len(words) - 1; i >= 0; i-- {
			if words[i].leads {
				open = append(open, words[i].cell)
			}
		}
	}
	push(m.held)
	push(m.globals)
	seen := make([]bool, len(m.cells))
	next := 0
	for len(open) > 0 {
		cell := open[len(open)-1]
		open = open[:len(open)-1]
		if seen[cell] {
			continue
		}
		if int(cell) != next {
			return false
		}
		seen[cell] = true
		next++
		if c := m.cells[cell]; c.view {
			open = append(open, c.base)
		} else {
			push(c.words)
		}
	}
	return next == len(m.cells)
}

// holdAgainst asks for bytes, and looks whether the answer is the model's; what is taken is written the same. It tells the answer.
func holdAgainst(t testing.TB, b []byte) api.Errno {
	t.Helper()
	want := modelled(b)
	m, e, at := image.Load(b)
	if e != want.code || at != want.place || (m == nil) != (e != api.OK) {
		t.Fatalf("Load(%s) of %d bytes: %v, %d at %d; want %d at %d", short(b), len(b), m != nil, e, at, want.code, want.place)
	}
	if e == api.OK {
		if again := save(t, m); !bytes.Equal(again, b) {
			t.Fatalf("Save of what was loaded: %s\nwant %s", short(again), short(b))
		}
	}
	return e
}
