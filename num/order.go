package num

import (
	"cmp"

	"casket/api"
	"casket/soft"
)

// How one number stands to another one.
const (
	below = iota - 1
	same
	above
	apart // one of them is a NaN
)

// Less is of the exact numbers, and false beside a NaN, as LessEq and Equal are.
func Less(a, b api.Num) bool { return order(a, b) == below }

// LessEq is Less or Equal.
func LessEq(a, b api.Num) bool {
	o := order(a, b)
	return o == below || o == same
}

// Equal is of the numbers, not of their kinds or patterns.
func Equal(a, b api.Num) bool { return order(a, b) == same }

func order(a, b api.Num) int {
	switch kinds(a, b) {
	case wholes:
		return cmp.Compare(a.Int, b.Int)
	case wholeAndDouble:
		return orderMixed(a.Int, b.Bits)
	case doubleAndWhole:
		return turned(orderMixed(b.Int, a.Bits))
	default:
		return orderDoubles(a.Bits, b.Bits)
	}
}

// turned is the order seen from the other side.
func turned(o int) int {
	if o == apart {
		return apart
	}
	return -o
}

func orderDoubles(a, b uint64) int {
	switch {
	case soft.Less(a, b):
		return below
	case soft.Equal(a, b):
		return same
	case soft.Less(b, a):
		return above
	}
	return apart
}

// orderMixed makes no double of a whole number that would be rounded: it goes by the double's whole part first.
func orderMixed(i int64, bits uint64) int {
	part, e := soft.Trunc(bits)
	switch {
	case e != api.OK:
		// A NaN, or beyond all whole numbers, and so on the same side of each of them as of 0.
		return orderDoubles(soft.FromInt(0), bits)
	case i != part:
		// No whole number lies between the double and its whole part.
		return cmp.Compare(i, part)
	}
	// Here i is the whole part of a double, so FromInt doesn't round it.
	return orderDoubles(soft.FromInt(i), bits)
}
