package numtext

import (
	"math/bits"
	"strings"
)

// maxPowerDigits is how many decimal digits may stand behind p and its sign.
const maxPowerDigits = 5

// scaledNumber is what digits say: the value times 2 to the power.
type scaledNumber struct {
	value uint64
	power int
	wide  bool // its digits span more than a value holds, and so more than a double does
}

// readDouble reads a sign or none, the mark, digits and a power; the sign is that of a pattern.
func readDouble(s string) (sign uint64, n scaledNumber, ok bool) {
	unsigned, below := strings.CutPrefix(s, "-")
	if below {
		sign = signBit
	}
	digits, marked := strings.CutPrefix(unsigned, hexMark)
	if !marked {
		return 0, scaledNumber{}, false
	}
	n, rest, ok := readDigits(digits)
	if !ok {
		return 0, scaledNumber{}, false
	}
	power, ok := readPower(rest)
	if !ok {
		return 0, scaledNumber{}, false
	}
	n.power += power
	return sign, n, true
}

// readDigits reads hexadecimal digits, with a point within them or not, and answers what stands behind them.
func readDigits(s string) (n scaledNumber, rest string, ok bool) {
	point := -1
	at := 0
	noughts := 0 // kept back: those at the end are part of the power, not of the value
digits:
	for ; at < len(s); at++ {
		if s[at] == '.' && point < 0 {
			point = at
			continue
		}
		switch digit := strings.IndexByte(hexDigits, s[at]); digit {
		case -1:
			break digits
		case 0:
			noughts++
		default:
			n.push(noughts, uint64(digit))
			noughts = 0
		}
	}
	if at == 0 || point == 0 || point == at-1 {
		return scaledNumber{}, "", false
	}
	n.power = 4 * noughts
	if point > 0 {
		n.power -= 4 * (at - 1 - point)
	}
	return n, s[at:], true
}

// push sets noughts and a digit behind the value. What no longer fits spans at least 62 bits from its highest to its lowest, where a double has 53.
func (n *scaledNumber) push(noughts int, digit uint64) {
	shift := 4 * (noughts + 1)
	if n.value != 0 && bits.Len64(n.value)+shift > 64 {
		n.wide = true
		return
	}
	n.value = n.value<<shift | digit
}

// readPower reads p, a sign and the power's digits, which must be all of s.
func readPower(s string) (int, bool) {
	digits, above := strings.CutPrefix(s, "p+")
	if !above {
		var below bool
		if digits, below = strings.CutPrefix(s, "p-"); !below {
			return 0, false
		}
	}
	if len(digits) > maxPowerDigits || !allDecimal(digits) {
		return 0, false
	}
	power := 0
	for at := range len(digits) {
		power = power*10 + int(digits[at]-'0')
	}
	if !above {
		power = -power
	}
	return power, true
}
