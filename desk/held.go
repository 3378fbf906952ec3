package desk

import "slices"

// held are the things whose numbers were given and not released.
type held struct {
	refs  []int    // rising: each new number is greater than all before it
	words []uint64 // of the same things
	next  int      // the least number that was never given
}

// number is the one by which a thing is held, or a new one.
func (h *held) number(w uint64) int {
	if i := slices.Index(h.words, w); i >= 0 {
		return h.refs[i]
	}
	ref := h.next
	h.refs = append(h.refs, ref)
	h.words = append(h.words, w)
	h.next++
	return ref
}

// thing is the word of the one with a number; false: none is held.
func (h *held) thing(ref int) (uint64, bool) {
	i, found := slices.BinarySearch(h.refs, ref)
	if !found {
		return 0, false
	}
	return h.words[i], true
}

// release tells whether there was one with that number.
func (h *held) release(ref int) bool {
	i, found := slices.BinarySearch(h.refs, ref)
	if found {
		h.refs = slices.Delete(h.refs, i, i+1)
		h.words = slices.Delete(h.words, i, i+1)
	}
	return found
}
