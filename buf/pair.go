package buf

import (
	"math"

	"casket/api"
	"casket/heap"
	"casket/soft"
	"casket/word"
)

// pair reads and writes the elements of one thing, at places that it has.
type pair struct {
	load  func(i int) uint64
	store func(i int, x uint64, v api.Value) api.Errno // v is x, unboxed
}

// pairOf is the pair of a thing's kind.
func pairOf(h *heap.Heap, w uint64, kind int) pair {
	switch kind {
	case api.F64:
		return doubles(h, w)
	case api.F32:
		return narrows(h, w)
	case api.I16:
		return shorts(h, w)
	case api.U8:
		return octets(h, w)
	}
	return words(h, w)
}

// raw reads and writes the bytes of elements of a width, the lowest first: in the buffer beneath, if w is a view.
func raw(h *heap.Heap, w uint64, width int) (read func(i int) uint64, write func(i int, bits uint64) api.Errno) {
	read = func(i int) uint64 {
		bits, _ := h.Read(w, i*width, width)
		return bits
	}
	write = func(i int, bits uint64) api.Errno {
		return h.Write(w, i*width, width, bits)
	}
	return read, write
}

func doubles(h *heap.Heap, w uint64) pair {
	read, write := raw(h, w, Width(api.F64))
	return pair{
		load: func(i int) uint64 { return word.FromFloat(read(i)) },
		store: func(i int, _ uint64, v api.Value) api.Errno {
			bits, e := double(v)
			if e != api.OK {
				return e
			}
			return write(i, bits)
		},
	}
}

func narrows(h *heap.Heap, w uint64) pair {
	read, write := raw(h, w, Width(api.F32))
	return pair{
		load: func(i int) uint64 { return soft.Wide(uint32(read(i))) },
		store: func(i int, _ uint64, v api.Value) api.Errno {
			bits, e := double(v)
			if e != api.OK {
				return e
			}
			return write(i, uint64(soft.Narrow(bits)))
		},
	}
}

func shorts(h *heap.Heap, w uint64) pair {
	read, write := raw(h, w, Width(api.I16))
	return pair{
		load: func(i int) uint64 { return small(int64(int16(read(i)))) },
		store: func(i int, _ uint64, v api.Value) api.Errno {
			x, e := within(v, math.MinInt16, math.MaxInt16)
			if e != api.OK {
				return e
			}
			return write(i, uint64(x))
		},
	}
}

func octets(h *heap.Heap, w uint64) pair {
	read, write := raw(h, w, Width(api.U8))
	return pair{
		load: func(i int) uint64 { return small(int64(read(i))) },
		store: func(i int, _ uint64, v api.Value) api.Errno {
			x, e := within(v, 0, math.MaxUint8)
			if e != api.OK {
				return e
			}
			return write(i, uint64(x))
		},
	}
}

// words are a row's: what is stored is the word itself, not what it is of.
func words(h *heap.Heap, w uint64) pair {
	return pair{
		load: func(i int) uint64 {
			x, _ := h.Word(w, i)
			return x
		},
		store: func(i int, x uint64, _ api.Value) api.Errno { return h.Set(w, i, x) },
	}
}

// double is the pattern of a number as a double.
func double(v api.Value) (uint64, api.Errno) {
	switch v.Kind {
	case api.Int:
		return soft.FromInt(v.Int), api.OK
	case api.Float:
		return v.Bits, api.OK
	}
	return 0, api.ErrType
}

// within is a whole number from least to most.
func within(v api.Value, least, most int64) (int64, api.Errno) {
	if v.Kind != api.Int {
		return 0, api.ErrType
	}
	if v.Int < least || v.Int > most {
		return 0, api.ErrRange
	}
	return v.Int, api.OK
}

// small is the word of a number that is small.
func small(i int64) uint64 {
	w, _ := word.FromInt(i)
	return w
}
