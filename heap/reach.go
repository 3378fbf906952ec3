package heap

import (
	"iter"

	"casket/api"
	"casket/word"
)

// find answers the handle that a word has; false, if it is of no cell.
func (h *Heap) find(w uint64) (int, bool) {
	id, ok := word.ToHandle(w)
	if !ok || id >= uint64(len(h.cells)) || h.cells[id].kind == api.Nil {
		return 0, false
	}
	return int(id), true
}

// among is a finder among the cells that the heap holds.
func (h *Heap) among(w uint64) (form, n int, found bool) {
	id, held := h.find(w)
	if !held {
		return shapeless, 0, false
	}
	c := h.cells[id]
	return shape(c.kind, c.view), h.bytes(id), true
}

// live tells the handles of the cells, rising; of each whether it is one when its turn comes, so that cells may go and come meanwhile.
func (h *Heap) live() iter.Seq[int] {
	return func(yield func(int) bool) {
		for id := 0; id < len(h.cells); id++ {
			if h.cells[id].kind != api.Nil && !yield(id) {
				return
			}
		}
	}
}

// reach answers which cells are reached from words, by handle, and what they need together.
func (h *Heap) reach(lists ...[]uint64) (reached []bool, need int) {
	reached = make([]bool, len(h.cells))
	var open []int // a list, and no calls within calls: a chain may have as many cells as the heap
	mark := func(w uint64) {
		id, held := h.find(w)
		if !held || reached[id] {
			return
		}
		reached[id] = true
		need += unitsOf(h.bytes(id))
		open = append(open, id)
	}
	for _, words := range lists {
		for _, w := range words {
			mark(w)
		}
	}
	for len(open) > 0 {
		id := open[len(open)-1]
		open = open[:len(open)-1]
		switch c := h.cells[id]; shape(c.kind, c.view) {
		case row:
			for w := range h.words(id) {
				mark(w)
			}
		case view:
			mark(c.base)
		}
	}
	return reached, need
}

// keep leaves the cells that are reached, and lets all others go.
func (h *Heap) keep(reached []bool, need int) {
sweep:
	for id := range h.live() {
		if reached[id] {
			continue sweep
		}
		h.store.Give(id)
		h.cells[id] = cell{}
	}
	h.held = need
}
