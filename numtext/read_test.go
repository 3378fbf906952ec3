package numtext_test

import (
	"strconv"
	"strings"
	"testing"

	"casket/api"
	"casket/numtext"
)

// Promise 4.3.

func noughts(count int) string { return strings.Repeat("0", count) }

func TestParseFloatByHand(t *testing.T) {
	for s, want := range map[string]uint64{
		"nan": api.Canon, "inf": infinity, "-inf": sign | infinity,
		"0x1p+0": one, "-0x1p+0": sign | one, "0x1p-0": one, "0x10p-4": one, "0x0.1p+4": one, "0x0.8p+1": one, "0x2p-1": one, "0x4p-2": one, "0x8p-3": one,
		"0x0001p+0": one, "0x1.000p+0": one, "0x1p+00000": one, "0x1p-00000": one, "0x01.0p+00": one, "0x1p+001": 0x4000000000000000,
		"0xap+0": 0x4024000000000000, "0xfp+0": 0x402e000000000000, "0x0.fp+0": 0x3fee000000000000, "0xa.bcp+0": 0x4025780000000000,
		"0x123456789abcdp+0":    0x42f23456789abcd0,
		"0x1.23456789abcdep+52": 0x43323456789abcde,
		"0x1p+1023":             0x7fe0000000000000, "0x1.fffffffffffffp+1023": greatest, "0xf.ffffffffffff8p+1020": greatest, "0x0.fffffffffffff8p+1024": greatest,
		"0x1p-1022": 0x10000000000000, "0x0.fffffffffffffp-1022": 0xfffffffffffff, "0x1.ffffffffffffep-1023": 0xfffffffffffff, "0x1p-1074": 1, "0x8p-1077": 1,
		"0x0.0000000000001p-1022": 1, "0x3p-1074": 3, "0x1.8p-1073": 3, "-0x1p-1074": sign | 1, "0x1" + noughts(50) + "p-01274": 1,
		"0x" + noughts(56) + "1p+00": one, "0x1" + noughts(57) + "p+0": one + 228<<52, "0x0." + noughts(55) + "1p-1": one - 225<<52, "0x1." + noughts(57) + "p+0": one,
		"0x1" + noughts(25) + "." + noughts(25) + "p-100": one, "0x" + noughts(20) + "." + noughts(20) + "1p+84": one,
	} {
		wantParseFloat(t, s, want, api.OK)
	}
}

// A nought has the sign that is written, whatever its power.
func TestParseFloatNoughts(t *testing.T) {
	for _, digits := range []string{"0", "00", "0.0", "000.000", noughts(50)} {
		for _, power := range []string{"+0", "-0", "+7", "-7", "+1024", "-1075", "+99999", "-99999", "+00000"} {
			wantParseFloat(t, "0x"+digits+"p"+power, 0, api.OK)
			wantParseFloat(t, "-0x"+digits+"p"+power, sign, api.OK)
		}
	}
}

func TestParseFloatInexact(t *testing.T) {
	for _, s := range []string{
		"0x1p+1024", "0x1p+1025", "0x10p+1020", "0x0.1p+1028", "0x1.fffffffffffff8p+1023", "0x1.fffffffffffff1p+1023", "0x2p+1023", "0x3p+1023", "0x1p+99999", "0x1p+10000",
		"0x1p-1075", "0x1p-1076", "0x0.8p-1074", "0x3p-1075", "0x1.8p-1074", "0x1.ffffffffffffep-1075", "0x1.fffffffffffffp-1023", "0x1.0000000000001p-1023", "0x1p-99999", "0x0.1p-1071",
		"0x1.00000000000008p+0", "0x1.00000000000001p+0", "0x1.fffffffffffff8p+0", "0x20000000000001p+0", "0x3fffffffffffffp+0", "0x100000000000008p+0", "0x100000000000001p+0",
		"0x10000000000000001p+0", "0x100000000000000001p+0", "0xffffffffffffffffp+0", "0xfffffffffffffffffp+0", "0x1.000000000000000000000000000001p+0",
		"0x1" + noughts(40) + "1p-200", "0x1" + noughts(52) + "." + "1p+0", "0x8" + noughts(15) + "1p+0", "0x8" + noughts(12) + "1p+0", "0xffffffffffffffff1p-4",
	} {
		wantParseFloat(t, s, 0, api.ErrInexact)
		wantParseFloat(t, "-"+s, 0, api.ErrInexact)
	}
}

// Between two doubles that lie next to each other, nothing is one: the middle, and what lies just beside the doubles.
func TestParseFloatBetween(t *testing.T) {
	for _, bits := range doubleEdges() {
		if bits&^sign >= infinity {
			continue
		}
		printed := numtext.Float(bits)
		digits, power, _ := strings.Cut(printed, "p")
		if !strings.Contains(digits, ".") {
			digits += "."
		}
		filled := digits + noughts(13-(len(digits)-strings.IndexByte(digits, '.')-1))
		wantParseFloat(t, filled+"p"+power, bits, api.OK)
		wantParseFloat(t, filled+noughts(20)+"p"+power, bits, api.OK)
		if bits&^sign == 0 {
			continue
		}
		for _, tail := range []string{"8", "1", "f", "7", "4", "2", "08", "01", "001", noughts(19) + "1", noughts(2) + "8"} {
			wantParseFloat(t, filled+tail+"p"+power, 0, api.ErrInexact)
		}
	}
}

func TestParseFloatForm(t *testing.T) {
	for _, s := range []string{
		"", "-", "+", "0", "1", "-1", "0x", "-0x", "x", "x1p+0", "1p+0", "0p+0", "00x1p+0", "0xx1p+0", "0x0x1p+0",
		"0x1", "0x1.8", "0x1p", "0x1p+", "0x1p-", "0x1p0", "0x1p1", "0x1p++1", "0x1p+-1", "0x1p-+1", "0x1p--1", "0x1p 1", "0x1p+ 1", "0x1p+1 ", "0x1+1", "0x1 p+1",
		"0xp+0", "0x.p+0", "0x.8p+0", "0x8.p+0", "0x1.p+0", "-0x.8p+0", "-0x8.p+0", "0x1..1p+0", "0x1.1.1p+0", "0x1.1.p+0", "0x.1.1p+0", "0x..p+0",
		"0x1p+0.5", "0x1p+.5", "0x1p+0x1", "0x1p+a", "0x1p+1a", "0x1p+1p+1", "0x1pp+1", "0x1p+123456", "0x1p-123456", "0x1p+000000", "0x0p+000000", "0x1p+1000000",
		"0X1p+0", "0x1P+0", "0xAp+0", "0xFp+0", "0x1.Ap+0", "0xaBp+0", "0xgp+0", "0x1gp+0", "0x1.gp+0",
		"+0x1p+0", "--0x1p+0", "-+0x1p+0", "+-0x1p+0", " 0x1p+0", "0x1p+0\n", "- 0x1p+0", "0 x1p+0", "0x 1p+0", "0x-1p+0", "0x1_0p+0", "0x1,8p+0",
		"-nan", "+nan", "NaN", "NAN", "Nan", "nan ", " nan", "nan1", "na", "n", "nann", "+inf", "Inf", "INF", "--inf", "-inf ", "inf-", "in", "infinity", "-Inf", "- inf", "-",
		"\x00", "0x1p+0\x00", "0x\xb1p+0", "0x1p+\xb1", "0x1\x80p+0", "\xff", "0x１p+0", "0x1e3", "1.5", "1e3",
	} {
		wantParseFloat(t, s, 0, api.ErrForm)
	}
}

// A wrong form is told ahead of a number that is no double.
func TestParseFloatFormFirst(t *testing.T) {
	for _, s := range []string{"0x1p+1024x", "0x1p-1075 ", "0x1.00000000000001p0", "0x100000000000000001p+", "0x100000000000000001", "0x100000000000000001.p+0"} {
		wantParseFloat(t, s, 0, api.ErrForm)
	}
}

// Every byte in every place of a right text.
func TestParseFloatEveryByte(t *testing.T) {
	for _, right := range []string{"-0x1.8p+12", "0x0p-7", "nan", "-inf", "0xa.bp-99"} {
		for at := range len(right) + 1 {
			for c := range 256 {
				instead := right[:min(at, len(right))] + string([]byte{byte(c)}) + right[min(at+1, len(right)):]
				between := right[:at] + string([]byte{byte(c)}) + right[at:]
				wantExact(t, instead)
				wantExact(t, between)
			}
		}
		for at := range right {
			wantExact(t, right[:at])
			wantExact(t, right[at:])
			wantExact(t, right[:at]+right[at+1:])
		}
	}
}

func TestParseFloatLength(t *testing.T) {
	for _, length := range []int{63, 64} {
		fill := length - len("0x1p+0")
		wantParseFloat(t, "0x"+noughts(fill)+"1p+0", one, api.OK)
		wantParseFloat(t, "0x1."+noughts(fill-1)+"p+0", one, api.OK)
		wantParseFloat(t, "-0x"+noughts(fill)+"p+0", sign, api.OK)
		wantParseFloat(t, "0x1"+noughts(fill-1)+"1p+0", 0, api.ErrInexact)
		wantParseFloat(t, "0x"+noughts(length-2), 0, api.ErrForm)
		wantParseFloat(t, strings.Repeat("x", length), 0, api.ErrForm)
	}
	for _, length := range []int{65, 66, 1000, 1 << 20} {
		fill := length - len("0x1p+0")
		wantParseFloat(t, "0x"+noughts(fill)+"1p+0", 0, api.ErrLong)
		wantParseFloat(t, "0x1."+noughts(fill-1)+"p+0", 0, api.ErrLong)
		wantParseFloat(t, "0x"+strings.Repeat("1", fill+1)+"p+0", 0, api.ErrLong)
		wantParseFloat(t, strings.Repeat("x", length), 0, api.ErrLong)
		wantParseFloat(t, strings.Repeat("\xff", length), 0, api.ErrLong)
		wantParseFloat(t, "nan"+strings.Repeat(" ", length-3), 0, api.ErrLong)
	}
	wantParseFloat(t, strings.Repeat("é", 32), 0, api.ErrForm)
	wantParseFloat(t, strings.Repeat("é", 33), 0, api.ErrLong)
}

func wantExact(t *testing.T, s string) {
	t.Helper()
	want, e := readExactly(s)
	wantParseFloat(t, s, want, e)
}

// Every power about the bounds, of texts with a point and without.
func TestParseFloatEveryPower(t *testing.T) {
	for _, digits := range []string{"1", "2", "3", "f", "0.1", "1.8", "10", "1.fffffffffffff", "1.ffffffffffffe", "0.0000000000001", "8000000000000", "1.00000000000008", "fffffffffffff8"} {
		for power := -1150; power <= 1100; power++ {
			if power > -1000 && power < 950 {
				continue
			}
			text := strconv.Itoa(power)
			if power >= 0 {
				text = "+" + text
			}
			wantExact(t, "0x"+digits+"p"+text)
		}
	}
}

func TestParseFloatShortTexts(t *testing.T) {
	everyText("01.p+", 5, func(s string) { wantExact(t, "0x"+s) })
	everyText("-0x1.p", 5, func(s string) { wantExact(t, s+"p+1") })
}

// Mixed texts of all lengths, mostly right ones.
func TestParseFloatMixed(t *testing.T) {
	for _, seed := range mixed(20000) {
		wantExact(t, mixedText(seed))
	}
}

// mixedText is a text of the form of a double, sparse in digits other than 0 so that many are exact.
func mixedText(seed uint64) string {
	next := func(below uint64) int {
		seed ^= seed << 13
		seed ^= seed >> 7
		seed ^= seed << 17
		return int(seed % below)
	}
	digits := func(count int) string {
		out := []byte(noughts(count))
		for range next(4) {
			if count > 0 {
				out[next(uint64(count))] = "123456789abcdef"[next(15)]
			}
		}
		return string(out)
	}
	s := []string{"", "-"}[next(2)] + "0x" + digits(1+next(30))
	if next(3) > 0 {
		s += "." + digits(1+next(25))
	}
	return s + "p" + []string{"+", "-"}[next(2)] + strconv.Itoa(next([]uint64{10, 200, 1100, 100000}[next(4)]))
}
