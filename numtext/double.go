package numtext

import (
	"strconv"

	"casket/api"
)

const hexDigits = "0123456789abcdef"

// Float is the one text that is printed of a double.
func Float(bits uint64) string {
	sign := ""
	if bits&signBit != 0 {
		sign = "-"
	}
	switch size := bits &^ signBit; {
	case size > infinity:
		return "nan"
	case size == infinity:
		return sign + "inf"
	case size == 0:
		return sign + "0x0p+0"
	default:
		fraction, power := scaled(size)
		return sign + "0x1" + fractionText(fraction) + "p" + powerText(power)
	}
}

// fractionText ends with the last digit that is no nought.
func fractionText(fraction uint64) string {
	if fraction == 0 {
		return ""
	}
	out := []byte{'.'}
	for ; fraction != 0; fraction = fraction << 4 & fractionMask {
		out = append(out, hexDigits[fraction>>(fractionBits-4)])
	}
	return string(out)
}

func powerText(power int) string {
	if power < 0 {
		return strconv.Itoa(power)
	}
	return "+" + strconv.Itoa(power)
}

// namedDouble is the pattern of a double that has a name instead of digits.
func namedDouble(s string) (uint64, bool) {
	switch s {
	case "nan":
		return api.Canon, true
	case "inf":
		return infinity, true
	case "-inf":
		return signBit | infinity, true
	}
	return 0, false
}

// ParseFloat reads the double that s says exactly, in whatever way it is scaled.
func ParseFloat(s string) (uint64, api.Errno) {
	if len(s) > maxText {
		return 0, api.ErrLong
	}
	if bits, named := namedDouble(s); named {
		return bits, api.OK
	}
	sign, n, ok := readDouble(s)
	if !ok {
		return 0, api.ErrForm
	}
	size, exact := n.pattern()
	if !exact {
		return 0, api.ErrInexact
	}
	return sign | size, api.OK
}
