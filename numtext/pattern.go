package numtext

import "math/bits"

// How a pattern is laid out, and the powers that it can say.
const (
	signBit      uint64 = 1 << 63
	infinity     uint64 = 0x7ff << fractionBits // the pattern of the positive one
	fractionBits        = 52
	fractionMask uint64 = 1<<fractionBits - 1
	bias                = 1023
	leastNormal         = -1022 // the power of the highest bit
	leastPower          = -1074 // of the lowest bit
)

// scaled tells a double as 1 and a fraction of 52 bits, times 2 to a power.
func scaled(size uint64) (fraction uint64, power int) {
	if size > fractionMask {
		return size & fractionMask, int(size>>fractionBits) - bias
	}
	// A subnormal number has no 1 ahead that is understood: its highest bit is moved there.
	shift := fractionBits + 1 - bits.Len64(size)
	return size << shift & fractionMask, leastNormal - shift
}

// pattern is that of the double, without a sign; false, if no double is the number.
func (n scaledNumber) pattern() (uint64, bool) {
	if n.wide {
		return 0, false
	}
	if n.value == 0 {
		return 0, true
	}
	// Without noughts at the end the value's bits are just those that a double must hold.
	spare := bits.TrailingZeros64(n.value)
	value, low := n.value>>spare, n.power+spare
	length := bits.Len64(value)
	high := low + length - 1
	switch {
	case length > fractionBits+1 || low < leastPower || high > bias:
		return 0, false
	case high < leastNormal:
		return value << (low - leastPower), true
	}
	fraction := value << (fractionBits + 1 - length) & fractionMask
	return uint64(high+bias)<<fractionBits | fraction, true
}
