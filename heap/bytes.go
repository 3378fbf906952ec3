package heap

import (
	"iter"
	"slices"

	"casket/api"
)

// bytes is how many bytes of its own a cell has.
func (h *Heap) bytes(id int) int {
	n, _ := h.store.Len(id)
	return n
}

// save writes what a new cell has into its extent.
func (h *Heap) save(id int, c api.Cell) {
	switch shape(c.Kind, c.View) {
	case number:
		h.store.Save(id, 0, wordBytes, uint64(c.Int))
	case text:
		h.saveBytes(id, []byte(c.Text))
	case buffer:
		h.saveBytes(id, c.Bytes)
	case row:
		for i, w := range c.Words {
			h.store.Save(id, i*wordBytes, wordBytes, w)
		}
	}
}

// load leads back from save.
func (h *Heap) load(id int) api.Cell {
	c := h.cells[id]
	out := c.bare()
	switch shape(c.kind, c.view) {
	case number:
		x, _ := h.store.Load(id, 0, wordBytes)
		out.Int = int64(x)
	case text:
		out.Text = string(h.loadBytes(id))
	case buffer:
		out.Bytes = h.loadBytes(id)
	case row:
		out.Words = slices.AppendSeq(make([]uint64, 0, h.bytes(id)/wordBytes), h.words(id))
	}
	return out
}

// words tells those of a row.
func (h *Heap) words(id int) iter.Seq[uint64] {
	return func(yield func(uint64) bool) {
		n := h.bytes(id)
		for off := 0; off < n; off += wordBytes {
			w, _ := h.store.Load(id, off, wordBytes)
			if !yield(w) {
				return
			}
		}
	}
}

// pieces parts n bytes into numbers that the store takes: places and widths.
func pieces(n int) iter.Seq2[int, int] {
	return func(yield func(int, int) bool) {
		width := wordBytes
		for off := 0; off < n; off += width {
			if off+width > n {
				width = 1
			}
			if !yield(off, width) {
				return
			}
		}
	}
}

func (h *Heap) saveBytes(id int, b []byte) {
	for off, width := range pieces(len(b)) {
		x := uint64(0)
		for i, c := range b[off : off+width] {
			x |= uint64(c) << (8 * i)
		}
		h.store.Save(id, off, width, x)
	}
}

func (h *Heap) loadBytes(id int) []byte {
	b := make([]byte, h.bytes(id))
	for off, width := range pieces(len(b)) {
		x, _ := h.store.Load(id, off, width)
		for i := range width {
			b[off+i] = byte(x >> (8 * i))
		}
	}
	return b
}
