package heap_test

import (
	"slices"
	"testing"

	"casket/api"
)

// Promise 6.5: Read and Write, of buffers and views. The model says which bytes they are of.

var someWidths = []int{1, 2, 4, 8}

// otherWidths are those that no number has.
var otherWidths = []int{least, -8, -1, 0, 3, 5, 6, 7, 9, 16, 32, 64, 256 + 1, 1<<32 + 8, most}

// everywhere reads and writes each width at each place, around n bytes and far out.
func (m *model) everywhere(w uint64, n int) {
	m.t.Helper()
	far := []int{least, least + 7, least + 8, -1 << 62, -1 << 32, 1 << 31, 1 << 32, 1 << 62, most - 8, most - 7, most - 1, most}
	for off := -9; off <= n+9; off++ {
		far = append(far, off)
	}
	x := uint64(0x8182838485868788)
	for _, width := range slices.Concat(someWidths, otherWidths) {
		for _, off := range far {
			m.read(w, off, width)
			m.write(w, off, width, x)
			m.read(w, off, width)
			x = x*3 + 1
		}
		m.look()
	}
}

func TestBytesOfBuffers(t *testing.T) {
	for _, kind := range kinds {
		for n := 0; n <= 24; n += widths[kind] {
			m := newModel(t, 30)
			front, _ := m.put(buffer(api.U8, mixed(1, 20)...))
			b, _ := m.put(buffer(kind, mixed(n, n)...), front)
			m.put(buffer(api.U8, mixed(2, 20)...), front, b)
			m.everywhere(b, n)
		}
	}
}

func TestBytesOfViews(t *testing.T) {
	for _, kind := range kinds {
		width := widths[kind]
		for from := 0; from <= 20; from += width {
			for _, n := range []int{0, 1, 2, (20 - from) / width} {
				if from+n*width > 20 {
					continue
				}
				m := newModel(t, 30)
				front, _ := m.put(buffer(api.U8, mixed(1, 9)...))
				b, _ := m.put(buffer(api.U8, mixed(from, 20)...), front)
				v, _ := m.put(view(kind, b, from, n), front, b)
				m.put(buffer(api.U8, mixed(2, 9)...), front, v)
				m.everywhere(v, n*width)
			}
		}
	}
}

// Several views of one buffer, and it: all tell the same bytes.
func TestBytesAreShared(t *testing.T) {
	m := newModel(t, 30)
	b, _ := m.put(buffer(api.F64, mixed(1, 24)...))
	all := []uint64{b}
	for _, c := range []api.Cell{view(api.U8, b, 3, 9), view(api.I16, b, 2, 7), view(api.F32, b, 4, 5), view(api.F64, b, 16, 1), view(api.F64, b, 0, 3), view(api.U8, b, 24, 0)} {
		v, e := m.put(c, all...)
		if e != api.OK {
			t.Fatalf("Put(%s) is %d", tell(c), e)
		}
		all = append(all, v)
	}
	c := chance(5)
	for range 1000 {
		m.write(c.pick(all), c.below(26)-1, someWidths[c.below(4)], c.word())
		for _, w := range all {
			m.read(w, c.below(26)-1, someWidths[c.below(4)])
		}
	}
	m.look()
	wantWrite(t, m.h, all[1], 0, 1, 0x1ab, api.OK)
	wantRead(t, m.h, b, 3, 1, 0xab, api.OK)
	wantWrite(t, m.h, b, 16, 8, 0x0102030405060708, api.OK)
	wantRead(t, m.h, all[4], 0, 8, 0x0102030405060708, api.OK)
	wantRead(t, m.h, all[3], 12, 4, 0x05060708, api.OK)
}

// A view's place is that of its Base's byte, a multiple of the width or not.
func TestBytesAlignedInTheBase(t *testing.T) {
	m := newModel(t, 30)
	b, _ := m.put(buffer(api.U8, 0, 1, 2, 3, 4, 5, 6, 7, 8, 9, 10, 11, 12, 13, 14, 15))
	v, _ := m.put(view(api.U8, b, 3, 13), b)
	wantRead(t, m.h, v, 0, 2, 0, api.ErrAlign)
	wantRead(t, m.h, v, 1, 2, 0x0504, api.OK)
	wantRead(t, m.h, v, 1, 4, 0x07060504, api.OK)
	wantRead(t, m.h, v, 1, 8, 0, api.ErrAlign)
	wantRead(t, m.h, v, 5, 8, 0x0f0e0d0c0b0a0908, api.OK)
	wantRead(t, m.h, v, 8, 8, 0, api.ErrIndex)
	wantRead(t, m.h, v, 12, 2, 0, api.ErrIndex)
}

// The first error that applies is the answer, and nothing has changed.
func TestBytesErrors(t *testing.T) {
	s := newSome(t)
	gone, _ := s.put(buffer(api.U8, blank(16)...), s.all...)
	s.collect(s.all...)
	try := func(w uint64, off, width int, e api.Errno) {
		t.Helper()
		wantRead(t, s.h, w, off, width, 0, e)
		wantWrite(t, s.h, w, off, width, 0xfefefefefefefefe, e)
	}
	for _, off := range []int{least, -2, -1, 0, 1, 2, 13, 14, 15, 16, 17, 1 << 32, most - 1, most} {
		for _, width := range slices.Concat(someWidths, otherWidths) {
			for _, w := range slices.Concat(plains, strays, nobodys, []uint64{gone}) {
				try(w, off, width, api.ErrHandle)
			}
			for _, w := range []uint64{s.number, s.text, s.row} {
				try(w, off, width, api.ErrKind)
			}
		}
		for _, width := range otherWidths {
			try(s.bytes, off, width, api.ErrKind)
			try(s.view, off, width, api.ErrKind)
		}
	}
	for _, off := range []int{least, -8, -7, -1, 9, 13, 16, 17, 1 << 32, most - 7, most} {
		try(s.bytes, off, 8, api.ErrIndex)
		try(s.view, off, 8, api.ErrIndex)
	}
	for _, off := range []int{1, 2, 3, 4, 5, 6, 7} {
		try(s.bytes, off, 8, api.ErrAlign)
	}
	for _, off := range []int{0, 1, 2, 3, 4, 5} {
		try(s.view, off, 8, api.ErrAlign)
	}
	s.look()
}
