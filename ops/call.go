package ops

import (
	"slices"

	"casket/api"
	"casket/heap"
	"casket/value"
)

// call is what an operator or a built-in function was handed.
type call struct {
	h      *heap.Heap
	words  []uint64
	values []api.Value // of the words
	roots  []uint64    // the words among them: what was handed in outlives what is made of it
}

// job is what is done with what was handed in.
type job func(c call) (uint64, api.Errno)

// done is what a job makes of words. What is no value is refused ahead of all that the job could say, whichever of the words it is.
func done(h *heap.Heap, do job, words, roots []uint64) (uint64, api.Errno) {
	values := make([]api.Value, len(words))
	for i, w := range words {
		v, e := value.Unbox(h, w)
		if e != api.OK {
			return 0, e
		}
		values[i] = v
	}
	// The roots are put into a list of their own: their spare room is the caller's.
	return do(call{h: h, words: words, values: values, roots: slices.Concat(roots, words)})
}

// are tells whether the values at these places are all of a kind.
func (c call) are(kind int, places ...int) bool {
	for _, i := range places {
		if c.values[i].Kind != kind {
			return false
		}
	}
	return true
}

// numbers are the first two values, if both are numbers.
func (c call) numbers() (a, b api.Num, ok bool) {
	a, first := number(c.values[0])
	b, second := number(c.values[1])
	return a, b, first && second
}

// number is a value as chapter 3 has it, if it is a whole number or a double.
func number(v api.Value) (api.Num, bool) {
	switch v.Kind {
	case api.Int:
		return api.Num{Whole: true, Int: v.Int}, true
	case api.Float:
		return api.Num{Bits: v.Bits}, true
	}
	return api.Num{}, false
}

func (c call) boxInt(i int64) (uint64, api.Errno) {
	return value.Box(c.h, api.Value{Kind: api.Int, Int: i}, c.roots)
}

func (c call) boxText(s string) (uint64, api.Errno) {
	return value.Box(c.h, api.Value{Kind: api.Text, Text: s}, c.roots)
}

func (c call) boxNumber(n api.Num) (uint64, api.Errno) {
	if n.Whole {
		return c.boxInt(n.Int)
	}
	return value.Box(c.h, api.Value{Kind: api.Float, Bits: n.Bits}, c.roots)
}
