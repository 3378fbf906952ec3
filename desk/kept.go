package desk

import (
	"slices"

	"casket/api"
	"casket/heap"
	"casket/value"
)

// Kept are the words that a machine keeps from run to run.
type Kept struct {
	Globals []uint64 // in the order of the source
	Refs    []int    // the numbers of the things that are held, rising
	Things  []uint64 // the words of the same things
	Next    int      // the least number that was never given
}

// UnderWay tells whether a run is.
func (d *Desk) UnderWay() bool { return d.run != nil }

// Kept is what is kept now; api.ErrState, if a run is under way.
func (d *Desk) Kept() (Kept, api.Errno) {
	if d.UnderWay() {
		return Kept{}, api.ErrState
	}
	held := d.Memory.held
	return Kept{Globals: slices.Clone(d.Memory.Globals), Refs: slices.Clone(held.refs), Things: slices.Clone(held.words), Next: held.next}, api.OK
}

// Restore makes the desk keep these words, which are of that heap's cells, and nothing that it kept ahead: it is as if no run had ended. It is refused with api.ErrState, if a run is under way; api.ErrArg, if no machine of the source could keep that.
func (d *Desk) Restore(h *heap.Heap, k Kept) api.Errno {
	if d.UnderWay() {
		return api.ErrState
	}
	if len(k.Globals) != len(d.Memory.Globals) || !areValues(h, k.Globals) || !k.holdsThings(h) {
		return api.ErrArg
	}
	held := held{refs: slices.Clone(k.Refs), words: slices.Clone(k.Things), next: k.Next}
	d.Memory = Memory{Heap: h, Globals: slices.Clone(k.Globals), held: held}
	d.end = nil
	return api.OK
}

func areValues(h *heap.Heap, words []uint64) bool {
	for _, w := range words {
		if _, e := value.Unbox(h, w); e != api.OK {
			return false
		}
	}
	return true
}

// holdsThings tells whether what is held are things, by numbers that rise and were given.
func (k Kept) holdsThings(h *heap.Heap) bool {
	if len(k.Refs) != len(k.Things) {
		return false
	}
	least := 0
	for i, ref := range k.Refs {
		v, e := value.Unbox(h, k.Things[i])
		if ref < least || ref >= k.Next || e != api.OK || !isThing(v.Kind) {
			return false
		}
		least = ref + 1
	}
	return k.Next >= 0
}
