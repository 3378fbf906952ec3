package desk

import (
	"slices"

	"casket/api"
	"casket/heap"
	"casket/value"
)

// Memory is the heap, and the words from which its cells are reached.
type Memory struct {
	Heap    *heap.Heap
	Globals []uint64
	held    held
	// Stack has what the frames of a run need, the outermost first: of each its variables in scope, and above them what it has worked out and still needs.
	Stack []uint64
}

func newMemory(h *heap.Heap, globals int) Memory {
	m := Memory{Heap: h}
	for range globals {
		m.Globals = append(m.Globals, m.Null())
	}
	return m
}

// Roots are what is needed still, from run to run and within the one that is under way.
func (m *Memory) Roots() []uint64 { return slices.Concat(m.Globals, m.held.words, m.Stack) }

// Box is the word of a value, with all that is reached now kept.
func (m *Memory) Box(v api.Value) (uint64, api.Errno) { return value.Box(m.Heap, v, m.Roots()) }

// Unbox is the value of a word that is the machine's own: such a word always has one.
func (m *Memory) Unbox(w uint64) api.Value {
	v, _ := value.Unbox(m.Heap, w)
	return v
}

// Null is the word of nil, which needs no cell.
func (m *Memory) Null() uint64 {
	w, _ := value.Box(m.Heap, api.Value{Kind: api.Nil}, nil)
	return w
}

// Truth is a word's value as a truth, if it is one.
func (m *Memory) Truth(w uint64) (truth, ok bool) {
	v := m.Unbox(w)
	return v.Int == 1, v.Kind == api.Bool
}

// Bounds are what a for goes from and to, if it may.
func (m *Memory) Bounds(from, to uint64) (i, end int64, e api.Errno) {
	first, last := m.Unbox(from), m.Unbox(to)
	switch {
	case first.Kind != api.Int || last.Kind != api.Int:
		return 0, 0, api.ErrType
	case !isSmall(first.Int) || !isSmall(last.Int):
		return 0, 0, api.ErrRange
	}
	return first.Int, last.Int, api.OK
}

// isSmall tells whether a whole number needs no cell.
func isSmall(i int64) bool { return i >= -1<<47 && i < 1<<47 }
