package image

import (
	"slices"

	"casket/api"
	"casket/site"
	"casket/word"
)

// Marks of words: which of the two stands behind.
const (
	wordItself = iota
	cellNumber
)

// viewMark is how much more than its Kind the first byte of a view is.
const viewMark = 32

// Bounds of what is counted.
const (
	mostNumber = 1<<31 - 1
	mostCount  = 1 << 62
)

// allCells reads them one by one, and makes no room ahead: there may be said to be more of them than there are bytes.
func (r *reader) allCells() {
	r.count = r.short()
	for range r.count {
		r.cells = append(r.cells, r.cell())
	}
}

func (r *reader) cell() api.Cell {
	at := r.at
	kind := r.byte()
	switch {
	case isBuffer(kind - viewMark):
		return api.Cell{Kind: kind - viewMark, View: true, Base: r.number(), From: int(r.short()), Len: int(r.short())}
	case isBuffer(kind):
		return api.Cell{Kind: kind, Bytes: slices.Clone(r.run(r.short()))}
	case kind == api.Int:
		return api.Cell{Kind: kind, Int: int64(r.eight())}
	case kind == api.Text:
		return api.Cell{Kind: kind, Text: string(r.run(r.short()))}
	case kind == api.Row:
		return api.Cell{Kind: kind, Words: r.words()}
	}
	r.refuse(api.ErrForm, at)
	return api.Cell{}
}

func isBuffer(kind int) bool { return kind >= api.F64 && kind <= api.U8 }

// words are a row's, read like the cells.
func (r *reader) words() []uint64 {
	var list []uint64
	for range r.short() {
		list = append(list, r.word())
	}
	return list
}

// word is one with a cell's place as its handle, or one that leads to none.
func (r *reader) word() uint64 {
	at := r.at
	switch r.byte() {
	case wordItself:
		w := r.eight()
		class := word.Class(w)
		r.want(class != api.ClassStray && class != api.ClassHandle, api.ErrStray, at)
		return w
	case cellNumber:
		return r.number()
	}
	r.refuse(api.ErrForm, at)
	return 0
}

// number is that of a cell, as a word.
func (r *reader) number() uint64 {
	w, _ := word.FromHandle(uint64(r.bounded(r.count-1, api.ErrCell)))
	return w
}

// site makes one that was never done stand as it is read.
func (r *reader) site(s *site.State) {
	s.Told.Form = r.form()
	s.Told.Generic = r.bounded(mostCount, api.ErrForm)
	s.Told.Fast = r.bounded(mostCount, api.ErrForm)
	s.Told.Fails = int(r.bounded(mostNumber, api.ErrForm))
	s.Kind = r.form()
	at := r.at
	s.Length = int(r.bounded(api.WarmUp, api.ErrForm))
	r.want(site.IsRow(s.Kind, s.Length), api.ErrForm, at)
}

// form is that of a site, or the kind of its row.
func (r *reader) form() int {
	at := r.at
	form := r.byte()
	r.want(form <= api.Double, api.ErrForm, at)
	return form
}
