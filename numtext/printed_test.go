package numtext_test

import (
	"math"
	"math/big"
	"regexp"
	"strconv"
	"strings"
	"testing"

	"casket/numtext"
)

// Promise 4.2.

func TestFloatByHand(t *testing.T) {
	for bits, want := range map[uint64]string{
		0: "0x0p+0", sign: "-0x0p+0", infinity: "inf", sign | infinity: "-inf",
		one: "0x1p+0", sign | one: "-0x1p+0", 0x4000000000000000: "0x1p+1", 0x3fe0000000000000: "0x1p-1", 0x4330000000000000: "0x1p+52",
		one + 1: "0x1.0000000000001p+0", one - 1: "0x1.fffffffffffffp-1", 0x4024000000000000: "0x1.4p+3", 0x3fb999999999999a: "0x1.999999999999ap-4",
		0x3ff0f00000000000: "0x1.0fp+0", 0x3ffabcdef0123456: "0x1.abcdef0123456p+0", 0x3ff1000000000000: "0x1.1p+0", 0x3ff0000000000010: "0x1.000000000001p+0",
		1: "0x1p-1074", 2: "0x1p-1073", 3: "0x1.8p-1073", 5: "0x1.4p-1072", 0x8000000000000: "0x1p-1023", 0x8000000000001: "0x1.0000000000002p-1023",
		0xfffffffffffff: "0x1.ffffffffffffep-1023", 0x10000000000000: "0x1p-1022", 0x10000000000001: "0x1.0000000000001p-1022", sign | 1: "-0x1p-1074",
		greatest: "0x1.fffffffffffffp+1023", sign | greatest: "-0x1.fffffffffffffp+1023", 0x7fe0000000000000: "0x1p+1023",
	} {
		wantFloat(t, bits, want)
	}
}

func TestFloatOfNaNs(t *testing.T) {
	for _, bits := range nans() {
		wantFloat(t, bits, "nan")
	}
	for bit := range 52 {
		wantFloat(t, infinity|1<<bit, "nan")
		wantFloat(t, sign|infinity|1<<bit, "nan")
	}
}

var printedForm = regexp.MustCompile(`^-?0x(0p\+0|1(\.[0-9a-f]{0,12}[1-9a-f])?p(\+0|[+-][1-9][0-9]{0,3}))$`)

// What is printed has the one form, and says the number.
func TestFloatExactly(t *testing.T) {
	for _, bits := range doubles() {
		s := numtext.Float(bits)
		if bits&^sign == infinity {
			continue
		}
		if !printedForm.MatchString(s) {
			t.Fatalf("Float(%016x) is %q", bits, s)
		}
		said, _, err := new(big.Float).SetPrec(200).Parse(s, 0)
		if err != nil {
			t.Fatalf("Float(%016x) is %q: %v", bits, s, err)
		}
		x := math.Float64frombits(bits)
		if said.Cmp(big.NewFloat(x)) != 0 || said.Signbit() != math.Signbit(x) {
			t.Fatalf("Float(%016x) is %q", bits, s)
		}
	}
}

// Go's own text differs only in a nought ahead of a power of one digit.
func TestFloatBesideGo(t *testing.T) {
	for _, bits := range doubles() {
		if bits&^sign == infinity {
			continue
		}
		front, power, _ := strings.Cut(strconv.FormatFloat(math.Float64frombits(bits), 'x', -1, 64), "p")
		if power[1] == '0' {
			power = power[:1] + power[2:]
		}
		wantFloat(t, bits, front+"p"+power)
	}
}
