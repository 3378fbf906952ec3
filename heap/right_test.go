package heap_test

import (
	"strings"
	"testing"

	"casket/api"
)

// Promise 6.1: which cells are right. The model says of each cell that is put whether it is.

// some is a heap with a cell of each kind.
type some struct {
	*model
	number, text, bytes, view, row uint64
	all                            []uint64
}

func newSome(t *testing.T) *some {
	s := &some{model: newModel(t, 1000)}
	s.number = s.right(number(5))
	s.text = s.right(text("0123456789"))
	s.bytes = s.right(buffer(api.U8, 1, 2, 3, 4, 5, 6, 7, 8, 9, 10, 11, 12, 13, 14, 15, 16))
	s.view = s.right(view(api.I16, s.bytes, 2, 7))
	s.row = s.right(row(s.number, s.text, s.view, small(3)))
	return s
}

// right puts a cell that is right, and keeps all.
func (s *some) right(c api.Cell) uint64 {
	s.t.Helper()
	w, e := s.put(c, s.all...)
	if e != api.OK {
		s.t.Fatalf("Put(%s) is %d", tell(c), e)
	}
	s.all = append(s.all, w)
	return w
}

func (s *some) wrong(c api.Cell) {
	s.t.Helper()
	if _, e := s.put(c, s.all...); e != api.ErrArg {
		s.t.Fatalf("Put(%s) is %d; want ErrArg", tell(c), e)
	}
}

// eachKind are right cells.
func (s *some) eachKind() []api.Cell {
	return []api.Cell{
		number(0), number(-1), number(-1 << 63), number(1<<63 - 1), text(""), text("a"), text("\x00\xff\xfe"), text("a text of more than five bytes"),
		buffer(api.F64), buffer(api.F32), buffer(api.I16), buffer(api.U8),
		buffer(api.F64, blank(24)...), buffer(api.F32, blank(12)...), buffer(api.I16, 1, 2, 3, 4, 5, 6), buffer(api.U8, 255, 0, 255),
		view(api.F64, s.bytes, 0, 2), view(api.F32, s.bytes, 4, 3), view(api.I16, s.bytes, 6, 5), view(api.U8, s.bytes, 1, 15),
		row(), row(0), row(plains...), row(s.all...), row(s.row, s.row),
	}
}

func TestRightOfEachKind(t *testing.T) {
	s := newSome(t)
	for _, c := range s.eachKind() {
		s.right(c)
	}
	for _, c := range s.eachKind() { // empty lists are as good as none
		if len(c.Bytes) == 0 {
			c.Bytes = []byte{}
		}
		if len(c.Words) == 0 {
			c.Words = []uint64{}
		}
		s.right(c)
	}
}

// names tells whether a field is named for the kind of a cell.
func names(c api.Cell, field string) bool {
	if c.View {
		return field == "Base" || field == "From" || field == "Len"
	}
	switch c.Kind {
	case api.Int:
		return field == "Int"
	case api.Text:
		return field == "Text"
	case api.Row:
		return field == "Words"
	}
	return field == "Bytes"
}

// A field that the kind does not name is 0 or empty.
func TestRightFields(t *testing.T) {
	s := newSome(t)
	for _, x := range []struct {
		field string
		spoil func(*api.Cell)
	}{
		{"Int", func(c *api.Cell) { c.Int = 1 }},
		{"Int", func(c *api.Cell) { c.Int = -1 << 63 }},
		{"Text", func(c *api.Cell) { c.Text = "\x00" }},
		{"Bytes", func(c *api.Cell) { c.Bytes = blank(8) }},
		{"Words", func(c *api.Cell) { c.Words = []uint64{0} }},
		{"Base", func(c *api.Cell) { c.Base = s.bytes }},
		{"Base", func(c *api.Cell) { c.Base = 1 }},
		{"From", func(c *api.Cell) { c.From = 8 }},
		{"From", func(c *api.Cell) { c.From = -8 }},
		{"Len", func(c *api.Cell) { c.Len = 1 }},
		{"Len", func(c *api.Cell) { c.Len = -1 }},
	} {
		for _, c := range s.eachKind() {
			if !names(c, x.field) {
				x.spoil(&c)
				s.wrong(c)
			}
		}
	}
}

// Kinds that cells do not have, and View beside kinds that views do not have.
func TestRightKinds(t *testing.T) {
	s := newSome(t)
	for _, kind := range []int{least, -1, api.Nil, api.Bool, api.Float, api.Row + 1, 32 + api.U8, 256 + api.Int, 1<<32 + api.Row, most} {
		s.wrong(api.Cell{Kind: kind})
		s.wrong(api.Cell{Kind: kind, Int: 1})
		s.wrong(api.Cell{Kind: kind, Bytes: blank(8)})
		s.wrong(view(kind, s.bytes, 0, 0))
		s.wrong(view(kind, s.bytes, 0, 1))
	}
	for _, kind := range []int{api.Int, api.Text, api.Row} {
		s.wrong(api.Cell{Kind: kind, View: true})
		s.wrong(view(kind, s.bytes, 0, 0))
		s.wrong(view(kind, s.bytes, 0, 1))
		s.wrong(api.Cell{Kind: kind, View: true, Int: 1})
	}
	for _, kind := range kinds {
		s.wrong(api.Cell{Kind: kind, View: true})
		s.wrong(api.Cell{Kind: kind, View: true, Bytes: blank(8)})
	}
}

// A buffer's bytes are a whole number of elements.
func TestRightElements(t *testing.T) {
	s := newSome(t)
	for _, kind := range kinds {
		for n := range 34 {
			if n%widths[kind] == 0 {
				s.right(buffer(kind, blank(n)...))
				s.collect(s.bytes)
				s.all = []uint64{s.bytes}
			} else {
				s.wrong(buffer(kind, blank(n)...))
			}
		}
	}
}

// What is right, but too much for every heap, is refused for its units; one more is not right.
func TestRightLengths(t *testing.T) {
	h := newHeap(t, api.MaxUnits)
	wantNoPut(t, h, api.ErrMemory, text(strings.Repeat("x", 1<<23)))
	wantNoPut(t, h, api.ErrArg, text(strings.Repeat("x", 1<<23+1)))
	for _, kind := range kinds {
		wantNoPut(t, h, api.ErrMemory, buffer(kind, blank(1<<23)...))
		wantNoPut(t, h, api.ErrArg, buffer(kind, blank(1<<23+widths[kind])...))
	}
	wantNoPut(t, h, api.ErrMemory, row(make([]uint64, 1<<20)...))
	wantNoPut(t, h, api.ErrArg, row(make([]uint64, 1<<20+1)...))
	wantHeld(t, h)
}

// What just fits into the greatest heap comes out again.
func TestGreatest(t *testing.T) {
	c := chance(6)
	words := make([]uint64, 1<<20-1)
	for i := range words {
		words[i] = small(int64(c.below(1 << 40)))
	}
	b := mixed(7, 1<<23-8)
	h := newHeap(t, api.MaxUnits)
	for _, c := range []api.Cell{row(words...), buffer(api.F64, b...), text(string(b)), buffer(api.U8, b[:1<<23-15]...), text(string(b[:1<<23-9]))} {
		w := wantPut(t, h, c)
		wantGet(t, h, w, c)
		wantReach(t, h, 1<<20, w)
		wantNoPut(t, h, api.ErrMemory, row(), w)
		wantHeld(t, h, w)
	}
}

// A view's Base is a buffer of this heap, and no view.
func TestRightBase(t *testing.T) {
	s := newSome(t)
	gone, _ := s.put(buffer(api.U8, blank(16)...), s.all...)
	s.collect(s.all...)
	for _, kind := range kinds {
		for _, base := range append([]uint64{s.number, s.text, s.view, s.row, gone}, nobodys...) {
			s.wrong(view(kind, base, 0, 0))
			s.wrong(view(kind, base, 0, 1))
		}
		for _, base := range append(plains, strays...) {
			s.wrong(view(kind, base, 0, 0))
		}
	}
	for _, kind := range kinds {
		for _, of := range kinds {
			b := s.right(buffer(of, blank(16)...))
			s.right(view(kind, b, 8, 1))
		}
	}
}

// A view lies within its buffer, at a multiple of its width.
func TestRightView(t *testing.T) {
	for _, n := range []int{0, 1, 7, 8, 9, 16, 17} {
		m := newModel(t, 500)
		b, _ := m.put(buffer(api.U8, mixed(n, n)...))
		for _, kind := range kinds {
			for from := -9; from <= n+9; from++ {
				for count := -2; count <= n/widths[kind]+2; count++ {
					m.put(view(kind, b, from, count), b)
				}
			}
			m.collect(b)
		}
	}
}

// Sums and products that would wrap round to what is right.
func TestRightViewFarOut(t *testing.T) {
	m := newModel(t, 100)
	b, _ := m.put(buffer(api.U8, blank(16)...))
	far := []int{
		least, least + 1, least + 8, least + 16, -1 << 62, -1 << 61, -1 << 32, -1 << 31, -16, -8,
		1 << 31, 1 << 32, 1<<32 + 8, 1 << 60, 1 << 61, 1<<61 + 1, 1<<61 + 2, 1 << 62, 1<<62 + 1, 1<<62 + 8, most - 15, most - 14, most - 7, most - 8, most - 1, most,
	}
	for _, kind := range kinds {
		for _, x := range far {
			for _, y := range append(far, 0, 1, 2, 8, 16) {
				for _, c := range []api.Cell{view(kind, b, x, y), view(kind, b, y, x)} {
					if _, e := m.put(c, b); e != api.ErrArg {
						t.Fatalf("Put(%s) is %d; want ErrArg", tell(c), e)
					}
				}
			}
		}
	}
}

// Of a row's words none is stray, and each handle is of a cell: wherever it stands.
func TestRightWords(t *testing.T) {
	s := newSome(t)
	gone, _ := s.put(number(3), s.all...)
	s.collect(s.all...)
	bad := append(append([]uint64{gone}, strays...), nobodys...)
	for _, w := range bad {
		s.wrong(row(w))
		s.wrong(row(w, 0, s.row))
		s.wrong(row(0, w, s.row))
		s.wrong(row(0, s.row, w))
	}
	for _, w := range append(s.all, plains...) {
		s.right(row(w))
		s.right(row(0, w, w))
	}
}

// A cell that no root reaches is one of the heap's all the same, while it is held.
func TestRightWithoutRoots(t *testing.T) {
	m := newModel(t, 100)
	b, _ := m.put(buffer(api.U8, 1, 2))
	v, e := m.put(view(api.U8, b, 1, 1))
	if e != api.OK {
		t.Fatalf("a view without roots: %d", e)
	}
	if _, e := m.put(row(v, b)); e != api.OK {
		t.Fatalf("a row without roots: %d", e)
	}
}

// What is not right changes nothing, with a full heap neither: nothing is swept.
func TestWrongChangesNothing(t *testing.T) {
	m := newModel(t, 4)
	m.put(number(1))
	m.put(number(2))
	for _, c := range []api.Cell{{}, {Kind: api.Int, Len: 1}, row(stray), view(api.U8, 0, 0, 0), buffer(api.I16, 1)} {
		if _, e := m.put(c); e != api.ErrArg || len(m.have) != 2 {
			t.Fatalf("Put(%s) is %d, with %d cells", tell(c), e, len(m.have))
		}
	}
}
