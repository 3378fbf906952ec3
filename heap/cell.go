package heap

import (
	"casket/api"
	"casket/word"
)

// cell is what a handle is of, but for the bytes in its extent; or none, if its kind is Nil.
type cell struct {
	kind      int
	view      bool
	base      uint64
	from, len int
}

// bare leads back to what the cell was put as, but for the bytes in its extent.
func (c cell) bare() api.Cell {
	return api.Cell{Kind: c.kind, View: c.view, Base: c.base, From: c.from, Len: c.len}
}

// Shapes of cells.
const (
	shapeless = iota
	number
	text
	buffer
	view
	row
)

func shape(kind int, isView bool) int {
	switch {
	case elementBytes(kind) > 0 && isView:
		return view
	case isView:
		return shapeless
	case elementBytes(kind) > 0:
		return buffer
	}
	switch kind {
	case api.Int:
		return number
	case api.Text:
		return text
	case api.Row:
		return row
	}
	return shapeless
}

// elementBytes is how many bytes an element of a buffer has; 0, if the kind is none of a buffer.
func elementBytes(kind int) int {
	switch kind {
	case api.F64:
		return 8
	case api.F32:
		return 4
	case api.I16:
		return 2
	case api.U8:
		return 1
	}
	return 0
}

// wordBytes is how many bytes a word has, and a unit.
const wordBytes = 8

// size is how many bytes of its own a cell has.
func size(c api.Cell) int {
	switch shape(c.Kind, c.View) {
	case number:
		return wordBytes
	case text:
		return len(c.Text)
	case buffer:
		return len(c.Bytes)
	case row:
		return len(c.Words) * wordBytes
	}
	return 0
}

// unitsOf is how many units a cell with n bytes of its own takes.
func unitsOf(n int) int { return 1 + (n+wordBytes-1)/wordBytes }

// Need is how many units a cell takes.
func Need(c api.Cell) int { return unitsOf(size(c)) }

// finder is the way to the cells that words lead to: the shape of one, and how many bytes of its own it has; false, if there is none.
type finder func(w uint64) (form, n int, found bool)

// right tells whether a cell may stand among those that are found.
func right(c api.Cell, find finder) bool {
	if !plain(c) {
		return false
	}
	switch shape(c.Kind, c.View) {
	case number:
		return true
	case text:
		return len(c.Text) <= api.MaxBytes
	case buffer:
		return len(c.Bytes) <= api.MaxBytes && len(c.Bytes)%elementBytes(c.Kind) == 0
	case view:
		return rightView(c, find)
	case row:
		return len(c.Words) <= api.MaxUnits && areValues(c.Words, find)
	}
	return false
}

// plain tells whether the fields that a cell's kind does not name are 0 or empty.
func plain(c api.Cell) bool {
	switch shape(c.Kind, c.View) {
	case number:
		c.Int = 0
	case text:
		c.Text = ""
	case buffer:
		c.Bytes = nil
	case view:
		c.Base, c.From, c.Len = 0, 0, 0
	case row:
		c.Words = nil
	}
	return c.Int == 0 && c.Text == "" && len(c.Bytes) == 0 && len(c.Words) == 0 && c.Base == 0 && c.From == 0 && c.Len == 0
}

func rightView(c api.Cell, find finder) bool {
	form, n, found := find(c.Base)
	if !found || form != buffer {
		return false
	}
	width := elementBytes(c.Kind)
	if c.From < 0 || c.From > n || c.From%width != 0 {
		return false
	}
	return c.Len >= 0 && c.Len <= (n-c.From)/width // Len times width may wrap round
}

func areValues(words []uint64, find finder) bool {
	for _, w := range words {
		if !isValue(w, find) {
			return false
		}
	}
	return true
}

// isValue tells whether a word may stand in a row.
func isValue(w uint64, find finder) bool {
	switch word.Class(w) {
	case api.ClassStray:
		return false
	case api.ClassHandle:
		_, _, found := find(w)
		return found
	}
	return true
}
