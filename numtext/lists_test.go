package numtext_test

import (
	"math"
	"math/big"
	"regexp"
	"strings"
	"testing"

	"casket/api"
	"casket/numtext"
)

const (
	least = math.MinInt64
	most  = math.MaxInt64

	sign     = uint64(1) << 63
	infinity = uint64(0x7ff0000000000000)
	greatest = uint64(0x7fefffffffffffff)
	one      = uint64(0x3ff0000000000000)
)

func wantParseInt(t *testing.T, s string, want int64, e api.Errno) {
	t.Helper()
	if got, told := numtext.ParseInt(s); got != want || told != e {
		t.Errorf("ParseInt(%q) is %d, %d; want %d, %d", s, got, told, want, e)
	}
}

func wantFloat(t *testing.T, bits uint64, want string) {
	t.Helper()
	if got := numtext.Float(bits); got != want {
		t.Errorf("Float(%016x) is %q; want %q", bits, got, want)
	}
}

func wantParseFloat(t *testing.T, s string, want uint64, e api.Errno) {
	t.Helper()
	if got, told := numtext.ParseFloat(s); got != want || told != e {
		t.Errorf("ParseFloat(%q) is %016x, %d; want %016x, %d", s, got, told, want, e)
	}
}

func wantParse(t *testing.T, s string, want api.Num, e api.Errno) {
	t.Helper()
	if got, told := numtext.Parse(s); got != want || told != e {
		t.Errorf("Parse(%q) is %v, %d; want %v, %d", s, got, told, want, e)
	}
}

// wholeEdges are the whole numbers at which something turns, and what lies next to powers of ten and of two.
func wholeEdges() []int64 {
	list := []int64{least, least + 1, most, most - 1, 0, 1, -1, 9, -9, 10, -10}
	for power := int64(10); power <= most/10; power *= 10 {
		list = append(list, power-1, power, power+1, -power-1, -power, -power+1)
	}
	const lastTen = 1000000000000000000
	list = append(list, lastTen-1, lastTen, lastTen+1, -lastTen-1, -lastTen, -lastTen+1)
	for power := range 63 {
		two := int64(1) << power
		list = append(list, two-1, two, two+1, -two-1, -two, -two+1)
	}
	return list
}

// mixed is a long row of patterns that lie far from one another; the same at every run.
func mixed(count int) []uint64 {
	list := make([]uint64, count)
	x := uint64(0x9e3779b97f4a7c15)
	for at := range list {
		x ^= x << 13
		x ^= x >> 7
		x ^= x << 17
		list[at] = x * 0x2545f4914f6cdd1d
	}
	return list
}

// nans are NaNs of both signs, quiet or not.
func nans() []uint64 {
	return []uint64{
		api.Canon, 0x7ff8000000000001, 0x7fffffffffffffff, 0x7ff0000000000001, 0x7ff7ffffffffffff,
		0xfff8000000000000, 0xfff9000000000007, 0xffffffffffffffff, 0xfff0000000000001,
	}
}

// doubleEdges are patterns, of both signs, at which something turns: no NaNs.
func doubleEdges() []uint64 {
	above := []uint64{
		0, 1, 2, 3, 5, 0xf, 0x10, 0x11, 0x7ffffffffffff, 0x8000000000000, 0x8000000000001, 0xfffffffffffff, // subnormal
		0x10000000000000, 0x10000000000001, 0x1fffffffffffff, 0x20000000000000, // the least that are not
		one - 1, one, one + 1, 0x3fe0000000000000, 0x4000000000000000, 0x4024000000000000, 0x3fb999999999999a,
		greatest, greatest - 1, 0x7fe0000000000000, infinity,
	}
	for digits := range 13 { // fractions of one to thirteen hexadecimal digits
		above = append(above, one|1<<(48-4*digits), one|0xfffffffffffff<<(48-4*digits)&0xfffffffffffff, one|0xa<<(48-4*digits))
	}
	for power := range uint64(2046) { // the powers of 2
		above = append(above, (power+1)<<52)
	}
	for bit := range 52 {
		above = append(above, 1<<bit, 1<<bit|1)
	}
	var list []uint64
	for _, bits := range above {
		list = append(list, bits, sign|bits)
	}
	return list
}

// doubles are the edges and mixed patterns of all sizes, NaNs left out.
func doubles() []uint64 {
	list := doubleEdges()
	for _, bits := range mixed(20000) {
		if isNaN(bits) {
			continue
		}
		list = append(list, bits, bits&^(0x7ff<<52)) // and a subnormal number
	}
	return list
}

func isNaN(bits uint64) bool { return bits&^sign > infinity }

var doubleForm = regexp.MustCompile(`^(-?)0x([0-9a-f]+)(\.[0-9a-f]+)?p([+-][0-9]{1,5})$`)

// readExactly reads a text as chapter 4 says, by exact fractions.
func readExactly(s string) (uint64, api.Errno) {
	if len(s) > 64 {
		return 0, api.ErrLong
	}
	switch s {
	case "nan":
		return api.Canon, api.OK
	case "inf":
		return infinity, api.OK
	case "-inf":
		return sign | infinity, api.OK
	}
	parts := doubleForm.FindStringSubmatch(s)
	if parts == nil {
		return 0, api.ErrForm
	}
	number, _ := new(big.Int).SetString(parts[2]+strings.TrimPrefix(parts[3], "."), 16)
	power, _ := new(big.Int).SetString(parts[4], 10)
	shift := int(power.Int64())
	if parts[3] != "" {
		shift -= 4 * (len(parts[3]) - 1)
	}
	size, exact := exactDouble(number, shift)
	if !exact {
		return 0, api.ErrInexact
	}
	bits := math.Float64bits(size)
	if parts[1] == "-" {
		bits |= sign
	}
	return bits, api.OK
}

// exactDouble is the number times 2 to the shift, and whether that is a double. (Rat.Float64 calls some exact that come to 0: what it answers is held against the number again.)
func exactDouble(number *big.Int, shift int) (float64, bool) {
	exact := new(big.Rat).SetInt(number)
	scale := new(big.Rat).SetInt(new(big.Int).Lsh(big.NewInt(1), uint(max(shift, -shift))))
	if shift >= 0 {
		exact.Mul(exact, scale)
	} else {
		exact.Quo(exact, scale)
	}
	size, _ := exact.Float64()
	if math.IsInf(size, 0) {
		return 0, false
	}
	return size, new(big.Rat).SetFloat64(size).Cmp(exact) == 0
}
