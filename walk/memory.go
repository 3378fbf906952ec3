package walk

import (
	"slices"

	"casket/api"
	"casket/heap"
	"casket/value"
)

// memory is the heap, and the words from which its cells are reached.
type memory struct {
	heap    *heap.Heap
	globals []uint64
	held    held
	// stack has what the frames of a run need, the outermost first: of each its variables in scope, and above them what it has worked out and still needs.
	// So what was worked out becomes a variable, and arguments become parameters, where they stand.
	stack []uint64
}

func newMemory(h *heap.Heap, globals int) memory {
	m := memory{heap: h}
	for range globals {
		m.globals = append(m.globals, m.null())
	}
	return m
}

func (m *memory) roots() []uint64 { return slices.Concat(m.globals, m.held.words, m.stack) }

func (m *memory) push(w uint64) { m.stack = append(m.stack, w) }

func (m *memory) pop() uint64 {
	last := len(m.stack) - 1
	w := m.stack[last]
	m.stack = m.stack[:last]
	return w
}

// top has the last n words of the stack, where they stand.
func (m *memory) top(n int) []uint64 { return m.stack[len(m.stack)-n:] }

// box is the word of a value, with all that is reached now kept.
func (m *memory) box(v api.Value) (uint64, api.Errno) { return value.Box(m.heap, v, m.roots()) }

// unbox is the value of a word that is the machine's own: such a word always has one.
func (m *memory) unbox(w uint64) api.Value {
	v, _ := value.Unbox(m.heap, w)
	return v
}

// null is the word of nil, which needs no cell.
func (m *memory) null() uint64 {
	w, _ := value.Box(m.heap, api.Value{Kind: api.Nil}, nil)
	return w
}
