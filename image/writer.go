package image

import (
	"slices"

	"casket/api"
	"casket/site"
	"casket/vm"
)

// writer writes a machine's parts, one behind the other.
type writer struct {
	bytes   []byte
	numbers map[uint64]uint64 // of the cells, by their words
}

func (w *writer) machine(k vm.Kept, cell func(x uint64) api.Cell) {
	w.byte(mark)
	w.text(k.Source)
	w.length(k.Units)
	w.cells(slices.Concat(k.Globals, k.Things), cell)
	for _, x := range k.Globals {
		w.word(x)
	}
	w.length(k.Next)
	w.length(len(k.Refs))
	for i, ref := range k.Refs {
		w.length(ref)
		w.word(k.Things[i])
	}
	for _, s := range k.Sites {
		w.site(s)
	}
}

// cells writes those that are reached, and keeps their numbers: none of them can be written ahead of the last that is come to.
func (w *writer) cells(from []uint64, cell func(x uint64) api.Cell) {
	var list []api.Cell
	w.numbers = numbered(from, func(x uint64) []uint64 {
		c := cell(x)
		list = append(list, c)
		return leadsTo(c)
	})
	w.length(len(list))
	for _, c := range list {
		w.cell(c)
	}
}

func (w *writer) cell(c api.Cell) {
	if c.View {
		w.byte(c.Kind + viewMark)
		w.short(w.numbers[c.Base])
		w.length(c.From)
		w.length(c.Len)
		return
	}
	w.byte(c.Kind)
	switch c.Kind {
	case api.Int:
		w.eight(uint64(c.Int))
	case api.Text:
		w.text(c.Text)
	case api.Row:
		w.length(len(c.Words))
		for _, x := range c.Words {
			w.word(x)
		}
	default:
		w.length(len(c.Bytes))
		w.bytes = append(w.bytes, c.Bytes...)
	}
}

func (w *writer) site(s site.State) {
	w.byte(s.Told.Form)
	w.short(uint64(s.Told.Generic))
	w.short(uint64(s.Told.Fast))
	w.length(s.Told.Fails)
	w.byte(s.Kind)
	w.length(s.Length)
}

func (w *writer) word(x uint64) {
	if number, ok := w.numbers[x]; ok {
		w.byte(cellNumber)
		w.short(number)
		return
	}
	w.byte(wordItself)
	w.eight(x)
}

func (w *writer) text(s string) {
	w.length(len(s))
	w.bytes = append(w.bytes, s...)
}

// length writes a number that is not below 0.
func (w *writer) length(n int) { w.short(uint64(n)) }

// short writes a number in as few bytes as it needs, the lowest bits first.
func (w *writer) short(x uint64) {
	for ; x >= shortMore; x >>= shortBits {
		w.byte(int(x%shortMore) + shortMore)
	}
	w.byte(int(x))
}

func (w *writer) eight(x uint64) {
	for range 8 {
		w.byte(int(x & 255))
		x >>= 8
	}
}

func (w *writer) byte(b int) { w.bytes = append(w.bytes, byte(b)) }
