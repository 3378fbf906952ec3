package image

import (
	"casket/api"
	"casket/word"
)

// deepest is how many cells may lead one to the next: no heap has units for more. Bytes may say that there are; these are not followed, as too many calls within calls end the program.
const deepest = api.MaxUnits

// numbered gives each cell that is reached from words its number, by its own word, in the order in which they are come to. What a cell leads to is asked for when its turn comes, once.
func numbered(from []uint64, leads func(w uint64) []uint64) map[uint64]uint64 {
	numbers := map[uint64]uint64{}
	depth := 0
	var come func(w uint64)
	come = func(w uint64) {
		if word.Class(w) != api.ClassHandle || depth == deepest {
			return
		}
		if _, known := numbers[w]; known {
			return
		}
		numbers[w] = uint64(len(numbers))
		depth++
		for _, x := range leads(w) {
			come(x)
		}
		depth--
	}
	for _, w := range from {
		come(w)
	}
	return numbers
}

// leadsTo are the words of a cell that may be other cells'.
func leadsTo(c api.Cell) []uint64 {
	if c.View {
		return []uint64{c.Base}
	}
	return c.Words
}
