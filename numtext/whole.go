package numtext

import (
	"math"
	"strconv"
	"strings"

	"casket/api"
)

// Int is the decimal digits of i.
func Int(i int64) string { return strconv.FormatInt(i, 10) }

// ParseInt reads what Int prints, and nothing else.
func ParseInt(s string) (int64, api.Errno) {
	if len(s) > maxText {
		return 0, api.ErrLong
	}
	digits, below := strings.CutPrefix(s, "-")
	if !allDecimal(digits) || digits[0] == '0' && s != "0" {
		return 0, api.ErrForm
	}
	return signedValue(digits, below)
}

// allDecimal tells whether s is one or more decimal digits.
func allDecimal(s string) bool {
	for at := range len(s) {
		if !isDecimal(s[at]) {
			return false
		}
	}
	return s != ""
}

func isDecimal(c byte) bool { return c >= '0' && c <= '9' }

// signedValue counts without a sign, since 2^63 fits below 0 only.
func signedValue(digits string, below bool) (int64, api.Errno) {
	limit := uint64(math.MaxInt64)
	if below {
		limit++
	}
	value := uint64(0)
	for at := range len(digits) {
		digit := uint64(digits[at] - '0')
		if value > (limit-digit)/10 {
			return 0, api.ErrRange
		}
		value = value*10 + digit
	}
	if below {
		return int64(-value), api.OK
	}
	return int64(value), api.OK
}
